/-
  The document's own token: numbers, as a contract.
-/
import Derived.Test.YtgpgjaenbhbbgaaDoorRefLexTok
namespace Go.Proofs.YtgpgjaenbhbbgaaDoor
open Go.RowKit

theorem num_from (s : ByteArray) (i n : Nat) (hi : i < s.size) (hsp : spanL digitZ (s.data.toList.drop i) = n) (hc : digitZ (s[i].toNat : Int) = true) :
    readL (s[i].toNat : Int) (s.data.toList.drop i) = if 10 < n then none else if 2147483647 < numL ((s.data.toList.drop i).takeWhile (onB digitZ)) then none else some ⟨3, (s.data.toList.drop i).takeWhile (onB digitZ), numL ((s.data.toList.drop i).takeWhile (onB digitZ)), n⟩ := by
  rw [read_digit hc, numR, hsp]
theorem take_byte (g : Int → Bool) (s : ByteArray) (i j : Nat) (h : j < ((s.data.toList.drop i).takeWhile (onB g)).length) (h' : i + j < s.size) : s[i + j] = ((s.data.toList.drop i).takeWhile (onB g))[j] := by
  have h2 : ((s.data.toList.drop i).takeWhile (onB g))[j] = (s.data.toList.drop i)[j]'(by rw [List.length_drop, list_len]; omega) := List.IsPrefix.getElem (List.takeWhile_prefix _) h
  rw [h2, List.getElem_drop, list_at s _ (by rw [list_len]; omega) h']
theorem num_eleven (l : List UInt8) (hd : ∀ c ∈ l, digitZ (c.toNat : Int) = true) (hl : l.length ≤ 11) : 0 ≤ numL l ∧ numL l < 100000000000 := by
  obtain ⟨h1, h2⟩ := numL_bd l 0 (by omega) hd
  refine ⟨h1, ?_⟩
  have h3 : (10 : Int) ^ l.length ≤ 10 ^ 11 := by
    have := Nat.pow_le_pow_right (n := 10) (by omega) hl
    exact_mod_cast this
  have h4 : numL l + 1 ≤ (0 + 1) * 10 ^ l.length := h2
  omega

set_option maxRecDepth 100000 in
set_option maxHeartbeats 4000000 in
theorem rtoken_digit (s : ByteArray) (i : Nat) (w : World) (hs : s.size ≤ 20000) (hi : i < s.size) (hc : digitZ (s[i].toNat : Int) = true) :
    Calls Tryd.prog 57 #[.string s, .int .i64 i] w (ReadPost (readL (s[i].toNat : Int) (s.data.toList.drop i)) w) := by
  have hr := digit_range.1 hc
  have HD := Lib.hid hc
  have t1 : decide (97 ≤ (s[i].toNat : Int)) = false := by rw [decide_eq_false_iff_not]; omega
  have t2 : decide (65 ≤ (s[i].toNat : Int)) = false := by rw [decide_eq_false_iff_not]; omega
  clear hc hr
  go_enter Tryd.func57, Tryd.ntmps57
  go_wp2_with fail
  have x1 := boxed5_new w (.int .i64 0) (.string ⟨#[]⟩) (.int .i64 0) (.int .i64 0) (.int .i64 0)
  have b1 := stands_alloc w (.cells #[.int .i64 0, .string ⟨#[]⟩, .int .i64 0, .int .i64 0, .int .i64 0] 71)
  have s1 := World.size_alloc w (.cells #[.int .i64 0, .string ⟨#[]⟩, .int .i64 0, .int .i64 0, .int .i64 0] 71)
  generalize w.alloc (.cells #[.int .i64 0, .string ⟨#[]⟩, .int .i64 0, .int .i64 0, .int .i64 0] 71) = w1 at *
  have X1 := Lib.hid x1; have B1 := Lib.hid b1; have S1 := Lib.hid s1
  clear x1 b1 s1
  refine (rdigit_any _ _).mono ?_
  rw [HD.out]
  rintro e w' ⟨rfl, rfl⟩
  go_wp2_with fail
  go_loop [7] (fun n => ∃ k : Nat, n = .int .i64 k ∧ 1 ≤ k ∧ i + k ≤ s.size ∧ Hid (∀ p (h : p < s.size), i ≤ p → p < i + k → digitZ (s[p].toNat : Int) = true)) (fun n => s.size - (intOf n).toNat)
  case atStart => exact ⟨1, rfl, Nat.le_refl _, by omega, fun p hp h1 h2 => by
    obtain rfl : p = i := by omega
    exact HD.out⟩
  case round =>
    obtain ⟨k, rfl, hk1, hks, hall⟩ := hrel
    have i4 : ((i : Int) + (k : Int)).toNat = i + k := by omega
    have hwr : IntKind.i64.wrap ((i : Int) + (k : Int)) = (i : Int) + (k : Int) := by rw [IntKind.wrap_i64]; omega
    by_cases hlt : i + k < s.size
    · obtain ⟨q, hq⟩ : ∃ q : Bool, digitZ (s[i + k].toNat : Int) = q := ⟨_, rfl⟩
      have hj0 : (0 : Int) ≤ (i : Int) + (k : Int) := by omega
      have hj1 : (i : Int) + (k : Int) < (s.size : Int) := by omega
      have HQ := Lib.hid hq; clear hq
      go_wp2_with fail
      refine (rdigit_any _ _).mono ?_
      rw [HQ.out]
      rintro e w' ⟨rfl, rfl⟩
      cases q with
      | true =>
        have HN : Hid (∀ p (h : p < s.size), i ≤ p → p < i + (k + 1) → digitZ (s[p].toNat : Int) = true) := fun p hp h1 h2 => by
          by_cases e : p = i + k
          · subst e; exact HQ.out
          · exact hall.out p hp h1 (by omega)
        go_wp2_with fail
        go_round
        case rel => exact ⟨k + 1, by go_num, by omega, by omega, HN⟩
        case measure => simp [intOf]; omega
      | false =>
        have hsp := span_from digitZ s i k (by omega) hall.out (fun _ => HQ.out)
        obtain ⟨hx1, hx2⟩ := text_from digitZ s i k hsp
        have HX1 := Lib.hid hx1; have HX2 := Lib.hid hx2
        have HR := Lib.hid (num_from s i k hi hsp HD.out)
        have HB := Lib.hid (fun (j : Nat) (h : j < ((s.data.toList.drop i).takeWhile (onB digitZ)).length) (h' : i + j < s.size) => take_byte digitZ s i j h h')
        have HDG : Hid (∀ c ∈ (s.data.toList.drop i).takeWhile (onB digitZ), digitZ (c.toNat : Int) = true) := fun c hc => (List.all_eq_true.1 List.all_takeWhile) c hc
        clear hx1 hx2 hall hsp HD
        generalize (s.data.toList.drop i).takeWhile (onB digitZ) = l at *
        go_wp2_with fail
        go_loop [10, 11] (fun v n => ∃ j : Nat, n = .int .i64 j ∧ j ≤ k ∧ j ≤ 11 ∧ v = .int .i64 (numL (l.take j))) (fun _ n => k - (intOf n).toNat)
        case atStart => exact ⟨0, rfl, Nat.zero_le _, Nat.zero_le _, rfl⟩
        case round =>
          obtain ⟨j, rfl, hjk, hj11, rfl⟩ := hrel
          have hlen := HX2.out
          obtain ⟨hm1, hm2⟩ := num_eleven (l.take j) (fun c hc => HDG.out c (List.mem_of_mem_take hc)) (by rw [List.length_take]; omega)
          have i4 : ((i : Int) + (j : Int)).toNat = i + j := by omega
          have hwr : IntKind.i64.wrap ((i : Int) + (j : Int)) = (i : Int) + (j : Int) := by rw [IntKind.wrap_i64]; omega
          have hwk : IntKind.i64.wrap ((i : Int) + (k : Int)) = (i : Int) + (k : Int) := by rw [IntKind.wrap_i64]; omega
          have ik4 : ((i : Int) + (k : Int)).toNat = i + k := by omega
          by_cases hlt : j < k ∧ j < 11
          · obtain ⟨hlt1, hlt2⟩ := hlt
            have hj0 : (0 : Int) ≤ (i : Int) + (j : Int) := by omega
            have hj1 : (i : Int) + (j : Int) < (s.size : Int) := by omega
            have hij : i + j < s.size := by omega
            have hjl : j < l.length := by omega
            have HBY := Lib.hid (HB.out j hjl hij)
            have HTK : Hid (numL (l.take (j + 1)) = 10 * numL (l.take j) + ((l[j].toNat : Int) - 48)) := by show _ = _; rw [List.take_succ_eq_append_getElem hjl, numL_snoc]
            have hcu : (s[i + j].toNat : Int) ≤ 255 := by have := s[i + j].toNat_lt; omega
            generalize numL (l.take j) = n at *
            clear hlen
            go_wp2_with fail
            go_round
            case rel => exact ⟨j + 1, by go_num, by omega, by omega, by rw [HTK.out, ← HBY.out]; congr 1; omega⟩
            case measure => simp [intOf]; omega
          · by_cases h10 : 10 < k
            · have HE : Hid (readL (s[i].toNat : Int) (s.data.toList.drop i) = none) := by show _ = _; rw [HR.out, if_pos h10]
              have t5 : decide (10 < (k : Int)) = true := by rw [decide_eq_true_eq]; omega
              have t6 : (decide ((j : Int) < (k : Int)) && decide ((j : Int) < 11)) = false := by
                rw [Bool.and_eq_false_iff, decide_eq_false_iff_not, decide_eq_false_iff_not]; omega
              have R1 := X1.out
              obtain ⟨r0, r1, r2, r3, r4⟩ := R1.cells
              have z0 := frozen_of_row w1 _ 0 _ _ R1
              have z1 := frozen_of_row w1 _ 1 _ _ R1
              have z2 := frozen_of_row w1 _ 2 _ _ R1
              have z3 := frozen_of_row w1 _ 3 _ _ R1
              have z4 := frozen_of_row w1 _ 4 _ _ R1
              clear R1
              generalize numL (l.take j) = n at *
              by_cases hjk' : j < k
              · have u1 : decide ((j : Int) < (k : Int)) = true := by rw [decide_eq_true_eq]; omega
                have u2 : decide ((j : Int) < 11) = false := by rw [decide_eq_false_iff_not]; omega
                clear t6
                go_wp2_with fail
                refine bodyPost_ret (v := .tuple #[.agg #[.int .i64 0, .string ⟨#[]⟩, .int .i64 0, .int .i64 0, .int .i64 0], .int .i64 0]) (by simp [results, Tryd.results57, go_sem, r0, r1, r2, r3, r4]) rfl ?_
                rw [HE.out]
                exact ⟨rfl, stored5 B1.out _ (Nat.le_refl _) _ _ _ _ _⟩
              · have u1 : decide ((j : Int) < (k : Int)) = false := by rw [decide_eq_false_iff_not]; omega
                clear t6
                go_wp2_with fail
                refine bodyPost_ret (v := .tuple #[.agg #[.int .i64 0, .string ⟨#[]⟩, .int .i64 0, .int .i64 0, .int .i64 0], .int .i64 0]) (by simp [results, Tryd.results57, go_sem, r0, r1, r2, r3, r4]) rfl ?_
                rw [HE.out]
                exact ⟨rfl, stored5 B1.out _ (Nat.le_refl _) _ _ _ _ _⟩
            · have hjk' : j = k := by omega
              subst hjk'
              have htk : l.take j = l := List.take_of_length_le (by omega)
              rw [htk] at hm1 hm2 ⊢
              have u1 : decide ((j : Int) < (j : Int)) = false := by rw [decide_eq_false_iff_not]; omega
              have t5 : decide (10 < (j : Int)) = false := by rw [decide_eq_false_iff_not]; omega
              have R1 := X1.out
              obtain ⟨r0, r1, r2, r3, r4⟩ := R1.cells
              have z0 := frozen_of_row w1 _ 0 _ _ R1
              have z1 := frozen_of_row w1 _ 1 _ _ R1
              have z2 := frozen_of_row w1 _ 2 _ _ R1
              have z3 := frozen_of_row w1 _ 3 _ _ R1
              have z4 := frozen_of_row w1 _ 4 _ _ R1
              clear R1
              by_cases hb : 2147483647 < numL l
              · have HE : Hid (readL (s[i].toNat : Int) (s.data.toList.drop i) = none) := by show _ = _; rw [HR.out, if_neg h10, if_pos hb]
                have t7 : decide (2147483647 < numL l) = true := by rw [decide_eq_true_eq]; exact hb
                generalize numL l = n at *
                go_wp2_with fail
                refine bodyPost_ret (v := .tuple #[.agg #[.int .i64 0, .string ⟨#[]⟩, .int .i64 0, .int .i64 0, .int .i64 0], .int .i64 0]) (by simp [results, Tryd.results57, go_sem, r0, r1, r2, r3, r4]) rfl ?_
                rw [HE.out]
                exact ⟨rfl, stored5 B1.out _ (Nat.le_refl _) _ _ _ _ _⟩
              · have HE : Hid (readL (s[i].toNat : Int) (s.data.toList.drop i) = some ⟨3, l, numL l, j⟩) := by show _ = _; rw [HR.out, if_neg h10, if_neg hb]
                have t7 : decide (2147483647 < numL l) = false := by rw [decide_eq_false_iff_not]; exact hb
                have hx1 := HX1.out
                generalize numL l = n at *
                go_wp2_with fail
                refine bodyPost_ret (v := .tuple #[.agg #[.int .i64 3, .string ⟨l.toArray⟩, .int .i64 n, .int .i64 0, .int .i64 0], .int .i64 j]) (by simp [results, Tryd.results57, go_sem, r0, r1, r2, r3, r4]) rfl ?_
                rw [HE.out]
                exact ⟨rfl, stored5 B1.out _ (Nat.le_refl _) _ _ _ _ _⟩
    · have hsp := span_from digitZ s i k (by omega) hall.out (fun h => absurd h hlt)
      obtain ⟨hx1, hx2⟩ := text_from digitZ s i k hsp
      have HX1 := Lib.hid hx1; have HX2 := Lib.hid hx2
      have HR := Lib.hid (num_from s i k hi hsp HD.out)
      have HB := Lib.hid (fun (j : Nat) (h : j < ((s.data.toList.drop i).takeWhile (onB digitZ)).length) (h' : i + j < s.size) => take_byte digitZ s i j h h')
      have HDG : Hid (∀ c ∈ (s.data.toList.drop i).takeWhile (onB digitZ), digitZ (c.toNat : Int) = true) := fun c hc => (List.all_eq_true.1 List.all_takeWhile) c hc
      clear hx1 hx2 hall hsp HD
      generalize (s.data.toList.drop i).takeWhile (onB digitZ) = l at *
      go_wp2_with fail
      go_loop [10, 11] (fun v n => ∃ j : Nat, n = .int .i64 j ∧ j ≤ k ∧ j ≤ 11 ∧ v = .int .i64 (numL (l.take j))) (fun _ n => k - (intOf n).toNat)
      case atStart => exact ⟨0, rfl, Nat.zero_le _, Nat.zero_le _, rfl⟩
      case round =>
        obtain ⟨j, rfl, hjk, hj11, rfl⟩ := hrel
        have hlen := HX2.out
        obtain ⟨hm1, hm2⟩ := num_eleven (l.take j) (fun c hc => HDG.out c (List.mem_of_mem_take hc)) (by rw [List.length_take]; omega)
        have i4 : ((i : Int) + (j : Int)).toNat = i + j := by omega
        have hwr : IntKind.i64.wrap ((i : Int) + (j : Int)) = (i : Int) + (j : Int) := by rw [IntKind.wrap_i64]; omega
        have hwk : IntKind.i64.wrap ((i : Int) + (k : Int)) = (i : Int) + (k : Int) := by rw [IntKind.wrap_i64]; omega
        have ik4 : ((i : Int) + (k : Int)).toNat = i + k := by omega
        by_cases hlt : j < k ∧ j < 11
        · obtain ⟨hlt1, hlt2⟩ := hlt
          have hj0 : (0 : Int) ≤ (i : Int) + (j : Int) := by omega
          have hj1 : (i : Int) + (j : Int) < (s.size : Int) := by omega
          have hij : i + j < s.size := by omega
          have hjl : j < l.length := by omega
          have HBY := Lib.hid (HB.out j hjl hij)
          have HTK : Hid (numL (l.take (j + 1)) = 10 * numL (l.take j) + ((l[j].toNat : Int) - 48)) := by show _ = _; rw [List.take_succ_eq_append_getElem hjl, numL_snoc]
          have hcu : (s[i + j].toNat : Int) ≤ 255 := by have := s[i + j].toNat_lt; omega
          generalize numL (l.take j) = n at *
          clear hlen
          go_wp2_with fail
          go_round
          case rel => exact ⟨j + 1, by go_num, by omega, by omega, by rw [HTK.out, ← HBY.out]; congr 1; omega⟩
          case measure => simp [intOf]; omega
        · by_cases h10 : 10 < k
          · have HE : Hid (readL (s[i].toNat : Int) (s.data.toList.drop i) = none) := by show _ = _; rw [HR.out, if_pos h10]
            have t5 : decide (10 < (k : Int)) = true := by rw [decide_eq_true_eq]; omega
            have t6 : (decide ((j : Int) < (k : Int)) && decide ((j : Int) < 11)) = false := by
              rw [Bool.and_eq_false_iff, decide_eq_false_iff_not, decide_eq_false_iff_not]; omega
            have R1 := X1.out
            obtain ⟨r0, r1, r2, r3, r4⟩ := R1.cells
            have z0 := frozen_of_row w1 _ 0 _ _ R1
            have z1 := frozen_of_row w1 _ 1 _ _ R1
            have z2 := frozen_of_row w1 _ 2 _ _ R1
            have z3 := frozen_of_row w1 _ 3 _ _ R1
            have z4 := frozen_of_row w1 _ 4 _ _ R1
            clear R1
            generalize numL (l.take j) = n at *
            by_cases hjk' : j < k
            · have u1 : decide ((j : Int) < (k : Int)) = true := by rw [decide_eq_true_eq]; omega
              have u2 : decide ((j : Int) < 11) = false := by rw [decide_eq_false_iff_not]; omega
              clear t6
              go_wp2_with fail
              refine bodyPost_ret (v := .tuple #[.agg #[.int .i64 0, .string ⟨#[]⟩, .int .i64 0, .int .i64 0, .int .i64 0], .int .i64 0]) (by simp [results, Tryd.results57, go_sem, r0, r1, r2, r3, r4]) rfl ?_
              rw [HE.out]
              exact ⟨rfl, stored5 B1.out _ (Nat.le_refl _) _ _ _ _ _⟩
            · have u1 : decide ((j : Int) < (k : Int)) = false := by rw [decide_eq_false_iff_not]; omega
              clear t6
              go_wp2_with fail
              refine bodyPost_ret (v := .tuple #[.agg #[.int .i64 0, .string ⟨#[]⟩, .int .i64 0, .int .i64 0, .int .i64 0], .int .i64 0]) (by simp [results, Tryd.results57, go_sem, r0, r1, r2, r3, r4]) rfl ?_
              rw [HE.out]
              exact ⟨rfl, stored5 B1.out _ (Nat.le_refl _) _ _ _ _ _⟩
          · have hjk' : j = k := by omega
            subst hjk'
            have htk : l.take j = l := List.take_of_length_le (by omega)
            rw [htk] at hm1 hm2 ⊢
            have u1 : decide ((j : Int) < (j : Int)) = false := by rw [decide_eq_false_iff_not]; omega
            have t5 : decide (10 < (j : Int)) = false := by rw [decide_eq_false_iff_not]; omega
            have R1 := X1.out
            obtain ⟨r0, r1, r2, r3, r4⟩ := R1.cells
            have z0 := frozen_of_row w1 _ 0 _ _ R1
            have z1 := frozen_of_row w1 _ 1 _ _ R1
            have z2 := frozen_of_row w1 _ 2 _ _ R1
            have z3 := frozen_of_row w1 _ 3 _ _ R1
            have z4 := frozen_of_row w1 _ 4 _ _ R1
            clear R1
            by_cases hb : 2147483647 < numL l
            · have HE : Hid (readL (s[i].toNat : Int) (s.data.toList.drop i) = none) := by show _ = _; rw [HR.out, if_neg h10, if_pos hb]
              have t7 : decide (2147483647 < numL l) = true := by rw [decide_eq_true_eq]; exact hb
              generalize numL l = n at *
              go_wp2_with fail
              refine bodyPost_ret (v := .tuple #[.agg #[.int .i64 0, .string ⟨#[]⟩, .int .i64 0, .int .i64 0, .int .i64 0], .int .i64 0]) (by simp [results, Tryd.results57, go_sem, r0, r1, r2, r3, r4]) rfl ?_
              rw [HE.out]
              exact ⟨rfl, stored5 B1.out _ (Nat.le_refl _) _ _ _ _ _⟩
            · have HE : Hid (readL (s[i].toNat : Int) (s.data.toList.drop i) = some ⟨3, l, numL l, j⟩) := by show _ = _; rw [HR.out, if_neg h10, if_neg hb]
              have t7 : decide (2147483647 < numL l) = false := by rw [decide_eq_false_iff_not]; exact hb
              have hx1 := HX1.out
              generalize numL l = n at *
              go_wp2_with fail
              refine bodyPost_ret (v := .tuple #[.agg #[.int .i64 3, .string ⟨l.toArray⟩, .int .i64 n, .int .i64 0, .int .i64 0], .int .i64 j]) (by simp [results, Tryd.results57, go_sem, r0, r1, r2, r3, r4]) rfl ?_
              rw [HE.out]
              exact ⟨rfl, stored5 B1.out _ (Nat.le_refl _) _ _ _ _ _⟩

end Go.Proofs.YtgpgjaenbhbbgaaDoor
