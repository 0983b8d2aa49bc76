/-
  The document's own token: texts, as a contract.
-/
import Derived.Test.YtgpgjaenbhbbgaaDoorRefLexTok2
namespace Go.Proofs.YtgpgjaenbhbbgaaDoor
open Go.RowKit

theorem rtext_any (s : ByteArray) (w : World) : Calls Tryd.prog 87 #[.string s] w fun e w' => e = .returned (.agg #[.int .i64 2, .int .i64 0, .string s, .slice none 0 0]) ∧ Below w.heap.size w w' := by
  go_enter Tryd.func87, Tryd.ntmps87
  go_wp2
  exact bodyPost_ret (v := .agg #[.int .i64 2, .int .i64 0, .string s, .slice none 0 0]) (by simp [results, Tryd.results87, go_sem]) rfl ⟨rfl, (Below.refl _ _).alloc (Nat.le_refl _) _⟩

theorem text_is (s : ByteArray) (i m : Nat) (hi : i < s.size) (hsp : spanL notQuoteZ (s.data.toList.drop (i + 1)) = m) (hc : s[i].toNat = 34) :
    readL (s[i].toNat : Int) (s.data.toList.drop i) = if m + i + 1 = s.size then none else if textB ⟨((s.data.toList.drop (i + 1)).takeWhile (onB notQuoteZ)).toArray⟩ = true then some ⟨4, (s.data.toList.drop (i + 1)).takeWhile (onB notQuoteZ), 0, m + 2⟩ else none := by
  have ht : (s.data.toList.drop i).tail = s.data.toList.drop (i + 1) := by rw [List.tail_drop]
  rw [hc]
  show readL 34 _ = _
  rw [read_quote, textR, ht, hsp, List.length_drop, list_len]
  by_cases e : m + i + 1 = s.size
  · rw [if_pos (by omega), if_pos e]
  · rw [if_neg (by omega), if_neg e]

set_option maxRecDepth 100000 in
set_option maxHeartbeats 4000000 in
theorem rtoken_quote (s : ByteArray) (i : Nat) (w : World) (hs : s.size ≤ 20000) (hi : i < s.size) (hc : s[i].toNat = 34) :
    Calls Tryd.prog 57 #[.string s, .int .i64 i] w (ReadPost (readL (s[i].toNat : Int) (s.data.toList.drop i)) w) := by
  have HD34 := Lib.hid hc
  have HD : Hid (digitZ (s[i].toNat : Int) = false) := by show _ = _; rw [hc]; decide
  have t1 : decide (97 ≤ (s[i].toNat : Int)) = false := by rw [decide_eq_false_iff_not]; omega
  have t2 : decide (65 ≤ (s[i].toNat : Int)) = false := by rw [decide_eq_false_iff_not]; omega
  have t3 : ((s[i].toNat : Int) == 34) = true := by rw [hc]; rfl
  clear hc
  go_enter Tryd.func57, Tryd.ntmps57
  go_wp2_with fail
  have x1 := boxed5_new w (.int .i64 0) (.string ⟨#[]⟩) (.int .i64 0) (.int .i64 0) (.int .i64 0)
  have b1 := stands_alloc w (.cells #[.int .i64 0, .string ⟨#[]⟩, .int .i64 0, .int .i64 0, .int .i64 0] 71)
  have s1 := World.size_alloc w (.cells #[.int .i64 0, .string ⟨#[]⟩, .int .i64 0, .int .i64 0, .int .i64 0] 71)
  generalize w.alloc (.cells #[.int .i64 0, .string ⟨#[]⟩, .int .i64 0, .int .i64 0, .int .i64 0] 71) = w1 at *
  have X1 := Lib.hid x1; have B1 := Lib.hid b1; have S1 := Lib.hid s1
  clear x1 b1 s1
  refine (rdigit_any _ _).mono ?_
  rw [HD.out]
  rintro e w' ⟨rfl, rfl⟩
  go_wp2_with fail
  go_loop [7] (fun n => ∃ k : Nat, n = .int .i64 k ∧ 1 ≤ k ∧ i + k ≤ s.size ∧ Hid (∀ p (h : p < s.size), i + 1 ≤ p → p < i + k → notQuoteZ (s[p].toNat : Int) = true)) (fun n => s.size - (intOf n).toNat)
  case atStart => exact ⟨1, rfl, Nat.le_refl _, by omega, fun p hp h1 h2 => by omega⟩
  case round =>
    obtain ⟨k, rfl, hk1, hks, hall⟩ := hrel
    have i4 : ((i : Int) + (k : Int)).toNat = i + k := by omega
    have hwr : IntKind.i64.wrap ((i : Int) + (k : Int)) = (i : Int) + (k : Int) := by rw [IntKind.wrap_i64]; omega
    by_cases hlt : i + k < s.size
    · have hj0 : (0 : Int) ≤ (i : Int) + (k : Int) := by omega
      have hj1 : (i : Int) + (k : Int) < (s.size : Int) := by omega
      by_cases h34 : s[i + k].toNat = 34
      · have u0 : ((s[i + k].toNat : Int) != 34) = false := by rw [h34]; rfl
        have hsp : spanL notQuoteZ (s.data.toList.drop (i + 1)) = k - 1 := span_from notQuoteZ s (i + 1) (k - 1) (by omega) (fun p hp h1 h2 => hall.out p hp h1 (by omega)) (fun h => by
          have e : i + 1 + (k - 1) = i + k := by omega
          simp only [e]; rw [h34]; rfl)
        clear h34
        have hn1 : i + 1 + (k - 1) = i + k := by omega
        have hsp' : spanL notQuoteZ (s.data.toList.drop (i + 1)) = k - 1 := hsp
        obtain ⟨hx1, hx2⟩ := text_from notQuoteZ s (i + 1) (k - 1) hsp'
        rw [hn1] at hx1
        have HX1 := Lib.hid hx1; have HX2 := Lib.hid hx2
        have HR := Lib.hid (text_is s i (k - 1) hi hsp' HD34.out)
        clear hx1 hx2 hall hsp hsp'
        generalize (s.data.toList.drop (i + 1)).takeWhile (onB notQuoteZ) = l at *
        have hi1w : IntKind.i64.wrap ((i : Int) + 1) = (i : Int) + 1 := by rw [IntKind.wrap_i64]; omega
        have i1n : ((i : Int) + 1).toNat = i + 1 := by omega
        have u1 : ((i : Int) + (k : Int) == (s.size : Int)) = false := by rw [beq_eq_false_iff_ne]; omega
        have HN2 : Hid (readL (s[i].toNat : Int) (s.data.toList.drop i) = if textB ⟨l.toArray⟩ = true then some ⟨4, l, 0, k - 1 + 2⟩ else none) := by show _ = _; rw [HR.out, if_neg (by omega)]
        have hus : (⟨l.toArray⟩ : ByteArray).size = l.length := size_mk l
        have hll := HX2.out
        go_wp2_with fail
        rw [HX1.out]
        have x2 := boxed5_new w1 (.int .i64 4) (.string ⟨l.toArray⟩) (.int .i64 0) (.int .i64 0) (.int .i64 0)
        have b2 := stands_alloc w1 (.cells #[.int .i64 4, .string ⟨l.toArray⟩, .int .i64 0, .int .i64 0, .int .i64 0] 71)
        generalize w1.alloc (.cells #[.int .i64 4, .string ⟨l.toArray⟩, .int .i64 0, .int .i64 0, .int .i64 0] 71) = w2 at *
        have B2 := Lib.hid (Below.step B1.out b2)
        have R2 := Lib.hid (X1.out.on b2)
        have X2 := Lib.hid x2
        clear x2 b2
        refine (rtext_any _ _).mono ?_
        rintro e w3 ⟨rfl, b3⟩
        have B3 := Lib.hid (Below.step B2.out b3); have R3 := Lib.hid (R2.out.on b3); have X3 := Lib.hid (X2.out.on b3)
        clear b3 R2 X2 B2
        go_wp2_with fail
        refine (refRight_any (.mk 2 0 ⟨l.toArray⟩ []) 0 _ _ _ _ _ (Nat.zero_le _) (repV_str _ _ _ _ ⟨by omega, by omega⟩ (by unfold maxLen; omega))).mono ?_
        rw [right_text]
        rintro e w4 ⟨rfl, b4⟩
        have B4 := Lib.hid (Below.step B3.out b4)
        have R4 := R3.out.on b4
        obtain ⟨r0, r1, r2, r3, r4⟩ := R4.cells
        have z0 := frozen_of_row w4 _ 0 _ _ R4
        have z1 := frozen_of_row w4 _ 1 _ _ R4
        have z2 := frozen_of_row w4 _ 2 _ _ R4
        have z3 := frozen_of_row w4 _ 3 _ _ R4
        have z4 := frozen_of_row w4 _ 4 _ _ R4
        obtain ⟨p0, p1, p2, p3, p4⟩ := (X3.out.on b4).cells
        clear R4 R3 X3 B3 b4
        cases hn : textB ⟨l.toArray⟩ with
        | false =>
          have HE : Hid (readL (s[i].toNat : Int) (s.data.toList.drop i) = none) := by show _ = _; rw [HN2.out, hn]; rfl
          clear hn
          go_wp2_with fail
          refine bodyPost_ret (v := .tuple #[.agg #[.int .i64 0, .string ⟨#[]⟩, .int .i64 0, .int .i64 0, .int .i64 0], .int .i64 0]) (by simp [results, Tryd.results57, go_sem, r0, r1, r2, r3, r4]) rfl ?_
          rw [HE.out]
          exact ⟨rfl, stored5 B4.out _ (Nat.le_refl _) _ _ _ _ _⟩
        | true =>
          have HE : Hid (readL (s[i].toNat : Int) (s.data.toList.drop i) = some ⟨4, l, 0, k + 1⟩) := by show _ = _; rw [HN2.out, hn, if_pos rfl, show k - 1 + 2 = k + 1 by omega]
          clear hn
          go_wp2_with fail
          refine bodyPost_ret (v := .tuple #[.agg #[.int .i64 4, .string ⟨l.toArray⟩, .int .i64 0, .int .i64 0, .int .i64 0], .int .i64 (k + 1)]) (by simp [results, Tryd.results57, go_sem, r0, r1, r2, r3, r4]) rfl ?_
          rw [HE.out]
          exact ⟨rfl, stored5 B4.out _ (Nat.le_refl _) _ _ _ _ _⟩
      · have u0 : ((s[i + k].toNat : Int) != 34) = true := by rw [bne_iff_ne]; omega
        have HN : Hid (∀ p (h : p < s.size), i + 1 ≤ p → p < i + (k + 1) → notQuoteZ (s[p].toNat : Int) = true) := fun p hp h1 h2 => by
          by_cases e : p = i + k
          · subst e; simp only [notQuoteZ, bne_iff_ne]; omega
          · exact hall.out p hp h1 (by omega)
        clear h34
        go_wp2_with fail
        go_round
        case rel => exact ⟨k + 1, by go_num, by omega, by omega, HN⟩
        case measure => simp [intOf]; omega
    · have hsp : spanL notQuoteZ (s.data.toList.drop (i + 1)) = k - 1 := span_from notQuoteZ s (i + 1) (k - 1) (by omega) (fun p hp h1 h2 => hall.out p hp h1 (by omega)) (fun h => absurd h (by omega))
      have hn1 : i + 1 + (k - 1) = i + k := by omega
      have hsp' : spanL notQuoteZ (s.data.toList.drop (i + 1)) = k - 1 := hsp
      obtain ⟨hx1, hx2⟩ := text_from notQuoteZ s (i + 1) (k - 1) hsp'
      rw [hn1] at hx1
      have HX1 := Lib.hid hx1; have HX2 := Lib.hid hx2
      have HR := Lib.hid (text_is s i (k - 1) hi hsp' HD34.out)
      clear hx1 hx2 hall hsp hsp'
      generalize (s.data.toList.drop (i + 1)).takeWhile (onB notQuoteZ) = l at *
      have hi1w : IntKind.i64.wrap ((i : Int) + 1) = (i : Int) + 1 := by rw [IntKind.wrap_i64]; omega
      have i1n : ((i : Int) + 1).toNat = i + 1 := by omega
      have R1 := X1.out
      obtain ⟨r0, r1, r2, r3, r4⟩ := R1.cells
      have z0 := frozen_of_row w1 _ 0 _ _ R1
      have z1 := frozen_of_row w1 _ 1 _ _ R1
      have z2 := frozen_of_row w1 _ 2 _ _ R1
      have z3 := frozen_of_row w1 _ 3 _ _ R1
      have z4 := frozen_of_row w1 _ 4 _ _ R1
      clear R1
      have HE : Hid (readL (s[i].toNat : Int) (s.data.toList.drop i) = none) := by show _ = _; rw [HR.out, if_pos (by omega)]
      have u1 : ((i : Int) + (k : Int) == (s.size : Int)) = true := by rw [beq_iff_eq]; omega
      go_wp2_with fail
      refine bodyPost_ret (v := .tuple #[.agg #[.int .i64 0, .string ⟨#[]⟩, .int .i64 0, .int .i64 0, .int .i64 0], .int .i64 0]) (by simp [results, Tryd.results57, go_sem, r0, r1, r2, r3, r4]) rfl ?_
      rw [HE.out]
      exact ⟨rfl, stored5 B1.out _ (Nat.le_refl _) _ _ _ _ _⟩

end Go.Proofs.YtgpgjaenbhbbgaaDoor
