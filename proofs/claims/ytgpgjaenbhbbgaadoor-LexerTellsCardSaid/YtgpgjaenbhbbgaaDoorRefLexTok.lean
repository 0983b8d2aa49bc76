/-
  The document's own token: names and variables, as a contract.
-/
import Derived.Test.YtgpgjaenbhbbgaaDoorRefLexSmall
import Derived.Test.YtgpgjaenbhbbgaaDoorRefRight
namespace Go.Proofs.YtgpgjaenbhbbgaaDoor
open Go.RowKit

theorem drop_take_len (g : Int → Bool) (s : ByteArray) (i : Nat) : spanL g (s.data.toList.drop i) = ((s.data.toList.drop i).takeWhile (onB g)).length := rfl
/-- The bytes of a text from a place on as far as a set of runes goes. -/
theorem text_from (g : Int → Bool) (s : ByteArray) (i n : Nat) (h : spanL g (s.data.toList.drop i) = n) : s.extract i (i + n) = ⟨((s.data.toList.drop i).takeWhile (onB g)).toArray⟩ ∧ ((s.data.toList.drop i).takeWhile (onB g)).length = n := by
  subst h
  exact ⟨take_from g s i, rfl⟩

/-- What lies of a token that has been read: a name or a variable. -/
theorem name_from (s : ByteArray) (i n : Nat) (hi : i < s.size) (hsp : spanL wordZ (s.data.toList.drop i) = n) (hc : smallZ (s[i].toNat : Int) = true) :
    readL (s[i].toNat : Int) (s.data.toList.drop i) = if nameB (s.extract i (i + n)) = true then some ⟨1, (s.data.toList.drop i).takeWhile (onB wordZ), 0, n⟩ else none := by
  rw [read_small hc, nameR, (text_from wordZ s i n hsp).1, hsp]
theorem var_from (s : ByteArray) (i n : Nat) (hi : i < s.size) (hsp : spanL wordZ (s.data.toList.drop i) = n) (hc : greatZ (s[i].toNat : Int) = true) :
    readL (s[i].toNat : Int) (s.data.toList.drop i) = if 16 < n then none else some ⟨2, (s.data.toList.drop i).takeWhile (onB wordZ), 0, n⟩ := by
  rw [read_great hc, varR, hsp]

set_option maxRecDepth 100000 in
set_option maxHeartbeats 4000000 in
theorem rtoken_small (s : ByteArray) (i : Nat) (w : World) (hs : s.size ≤ 20000) (hi : i < s.size) (hc : smallZ (s[i].toNat : Int) = true) :
    Calls Tryd.prog 57 #[.string s, .int .i64 i] w (ReadPost (readL (s[i].toNat : Int) (s.data.toList.drop i)) w) := by
  have hr := small_range.1 hc
  have HC := Lib.hid hc
  have t1 : decide (97 ≤ (s[i].toNat : Int)) = true := by rw [decide_eq_true_eq]; omega
  have t2 : decide ((s[i].toNat : Int) ≤ 122) = true := by rw [decide_eq_true_eq]; omega
  have t3 : decide ((s[i].toNat : Int) ≤ 90) = false := by rw [decide_eq_false_iff_not]; omega
  have HW0 : Hid (wordZ (s[i].toNat : Int) = true) := by show _ = _; rw [wordZ, hc]; simp
  clear hc hr
  go_enter Tryd.func57, Tryd.ntmps57
  go_wp2_with fail
  have x1 := boxed5_new w (.int .i64 0) (.string ⟨#[]⟩) (.int .i64 0) (.int .i64 0) (.int .i64 0)
  have b1 := stands_alloc w (.cells #[.int .i64 0, .string ⟨#[]⟩, .int .i64 0, .int .i64 0, .int .i64 0] 71)
  have s1 := World.size_alloc w (.cells #[.int .i64 0, .string ⟨#[]⟩, .int .i64 0, .int .i64 0, .int .i64 0] 71)
  generalize w.alloc (.cells #[.int .i64 0, .string ⟨#[]⟩, .int .i64 0, .int .i64 0, .int .i64 0] 71) = w1 at *
  go_loop [7] (fun n => ∃ k : Nat, n = .int .i64 k ∧ 1 ≤ k ∧ i + k ≤ s.size ∧ Hid (∀ p (h : p < s.size), i ≤ p → p < i + k → wordZ (s[p].toNat : Int) = true)) (fun n => s.size - (intOf n).toNat)
  case atStart => exact ⟨1, rfl, Nat.le_refl _, by omega, fun p hp h1 h2 => by
    obtain rfl : p = i := by omega
    exact HW0.out⟩
  case round =>
    obtain ⟨k, rfl, hk1, hks, hall⟩ := hrel
    have i4 : ((i : Int) + (k : Int)).toNat = i + k := by omega
    have hwr : IntKind.i64.wrap ((i : Int) + (k : Int)) = (i : Int) + (k : Int) := by rw [IntKind.wrap_i64]; omega
    by_cases hlt : i + k < s.size
    · obtain ⟨q, hq⟩ : ∃ q : Bool, wordZ (s[i + k].toNat : Int) = q := ⟨_, rfl⟩
      have hj0 : (0 : Int) ≤ (i : Int) + (k : Int) := by omega
      have hj1 : (i : Int) + (k : Int) < (s.size : Int) := by omega
      have HQ := Lib.hid hq; clear hq
      go_wp2_with fail
      refine (rword_any _ _).mono ?_
      rw [HQ.out]
      rintro e w' ⟨rfl, rfl⟩
      cases q with
      | true =>
        have HN : Hid (∀ p (h : p < s.size), i ≤ p → p < i + (k + 1) → wordZ (s[p].toNat : Int) = true) := fun p hp h1 h2 => by
          by_cases e : p = i + k
          · subst e; exact HQ.out
          · exact hall.out p hp h1 (by omega)
        go_wp2_with fail
        go_round
        case rel => exact ⟨k + 1, by go_num, by omega, by omega, HN⟩
        case measure => simp [intOf]; omega
      | false =>
        have hsp := span_from wordZ s i k (by omega) hall.out (fun _ => HQ.out)
        obtain ⟨hx1, hx2⟩ := text_from wordZ s i k hsp
        have HR := Lib.hid (name_from s i k hi hsp HC.out)
        rw [hx1] at HR
        generalize (s.data.toList.drop i).takeWhile (onB wordZ) = l at *
        have HX1 := Lib.hid hx1
        have hus : (⟨l.toArray⟩ : ByteArray).size = l.length := size_mk l
        clear hx1 hall hsp
        go_wp2_with fail
        rw [HX1.out]
        have x2 := boxed5_new w1 (.int .i64 1) (.string ⟨l.toArray⟩) (.int .i64 0) (.int .i64 0) (.int .i64 0)
        have b2 := stands_alloc w1 (.cells #[.int .i64 1, .string ⟨l.toArray⟩, .int .i64 0, .int .i64 0, .int .i64 0] 71)
        generalize w1.alloc (.cells #[.int .i64 1, .string ⟨l.toArray⟩, .int .i64 0, .int .i64 0, .int .i64 0] 71) = w2 at *
        rw [s1] at x2
        have B2 := Lib.hid (Below.step b1 b2)
        have R2 := x1.on b2
        obtain ⟨r0, r1, r2, r3, r4⟩ := R2.cells
        have z0 := frozen_of_row w2 _ 0 _ _ R2
        have z1 := frozen_of_row w2 _ 1 _ _ R2
        have z2 := frozen_of_row w2 _ 2 _ _ R2
        have z3 := frozen_of_row w2 _ 3 _ _ R2
        have z4 := frozen_of_row w2 _ 4 _ _ R2
        obtain ⟨p0, p1, p2, p3, p4⟩ := x2.cells
        have f0 := frozen_of_row w2 _ 0 _ _ x2
        clear R2 x2 b2
        refine (refName_any _ _ (by rw [hus]; unfold maxLen; omega)).mono ?_
        rintro e w' ⟨rfl, rfl⟩
        cases hn : nameB ⟨l.toArray⟩ with
        | false =>
          have HE : Hid (readL (s[i].toNat : Int) (s.data.toList.drop i) = none) := by show _ = _; rw [HR.out, hn]; rfl
          clear hn
          go_wp2_with fail
          refine bodyPost_ret (v := .tuple #[.agg #[.int .i64 0, .string ⟨#[]⟩, .int .i64 0, .int .i64 0, .int .i64 0], .int .i64 0]) (by simp [results, Tryd.results57, go_sem, r0, r1, r2, r3, r4]) rfl ?_
          rw [HE.out]
          exact ⟨rfl, stored5 B2.out _ (Nat.le_refl _) _ _ _ _ _⟩
        | true =>
          have HE : Hid (readL (s[i].toNat : Int) (s.data.toList.drop i) = some ⟨1, l, 0, k⟩) := by show _ = _; rw [HR.out, hn]; rfl
          clear hn
          go_wp2_with fail
          refine bodyPost_ret (v := .tuple #[.agg #[.int .i64 1, .string ⟨l.toArray⟩, .int .i64 0, .int .i64 0, .int .i64 0], .int .i64 k]) (by simp [results, Tryd.results57, go_sem, r0, r1, r2, r3, r4]) rfl ?_
          rw [HE.out]
          exact ⟨rfl, stored5 B2.out _ (Nat.le_refl _) _ _ _ _ _⟩
    · have hsp := span_from wordZ s i k (by omega) hall.out (fun h => absurd h hlt)
      obtain ⟨hx1, hx2⟩ := text_from wordZ s i k hsp
      have HR := Lib.hid (name_from s i k hi hsp HC.out)
      rw [hx1] at HR
      generalize (s.data.toList.drop i).takeWhile (onB wordZ) = l at *
      have HX1 := Lib.hid hx1
      have hus : (⟨l.toArray⟩ : ByteArray).size = l.length := size_mk l
      clear hx1 hall hsp
      go_wp2_with fail
      rw [HX1.out]
      have x2 := boxed5_new w1 (.int .i64 1) (.string ⟨l.toArray⟩) (.int .i64 0) (.int .i64 0) (.int .i64 0)
      have b2 := stands_alloc w1 (.cells #[.int .i64 1, .string ⟨l.toArray⟩, .int .i64 0, .int .i64 0, .int .i64 0] 71)
      generalize w1.alloc (.cells #[.int .i64 1, .string ⟨l.toArray⟩, .int .i64 0, .int .i64 0, .int .i64 0] 71) = w2 at *
      rw [s1] at x2
      have B2 := Lib.hid (Below.step b1 b2)
      have R2 := x1.on b2
      obtain ⟨r0, r1, r2, r3, r4⟩ := R2.cells
      have z0 := frozen_of_row w2 _ 0 _ _ R2
      have z1 := frozen_of_row w2 _ 1 _ _ R2
      have z2 := frozen_of_row w2 _ 2 _ _ R2
      have z3 := frozen_of_row w2 _ 3 _ _ R2
      have z4 := frozen_of_row w2 _ 4 _ _ R2
      obtain ⟨p0, p1, p2, p3, p4⟩ := x2.cells
      have f0 := frozen_of_row w2 _ 0 _ _ x2
      clear R2 x2 b2
      refine (refName_any _ _ (by rw [hus]; unfold maxLen; omega)).mono ?_
      rintro e w' ⟨rfl, rfl⟩
      cases hn : nameB ⟨l.toArray⟩ with
      | false =>
        have HE : Hid (readL (s[i].toNat : Int) (s.data.toList.drop i) = none) := by show _ = _; rw [HR.out, hn]; rfl
        clear hn
        go_wp2_with fail
        refine bodyPost_ret (v := .tuple #[.agg #[.int .i64 0, .string ⟨#[]⟩, .int .i64 0, .int .i64 0, .int .i64 0], .int .i64 0]) (by simp [results, Tryd.results57, go_sem, r0, r1, r2, r3, r4]) rfl ?_
        rw [HE.out]
        exact ⟨rfl, stored5 B2.out _ (Nat.le_refl _) _ _ _ _ _⟩
      | true =>
        have HE : Hid (readL (s[i].toNat : Int) (s.data.toList.drop i) = some ⟨1, l, 0, k⟩) := by show _ = _; rw [HR.out, hn]; rfl
        clear hn
        go_wp2_with fail
        refine bodyPost_ret (v := .tuple #[.agg #[.int .i64 1, .string ⟨l.toArray⟩, .int .i64 0, .int .i64 0, .int .i64 0], .int .i64 k]) (by simp [results, Tryd.results57, go_sem, r0, r1, r2, r3, r4]) rfl ?_
        rw [HE.out]
        exact ⟨rfl, stored5 B2.out _ (Nat.le_refl _) _ _ _ _ _⟩

set_option maxRecDepth 100000 in
set_option maxHeartbeats 4000000 in
theorem rtoken_great (s : ByteArray) (i : Nat) (w : World) (hs : s.size ≤ 20000) (hi : i < s.size) (hc : greatZ (s[i].toNat : Int) = true) :
    Calls Tryd.prog 57 #[.string s, .int .i64 i] w (ReadPost (readL (s[i].toNat : Int) (s.data.toList.drop i)) w) := by
  have hr := great_range.1 hc
  have HC := Lib.hid hc
  have t1 : decide (97 ≤ (s[i].toNat : Int)) = false := by rw [decide_eq_false_iff_not]; omega
  have t2 : decide (65 ≤ (s[i].toNat : Int)) = true := by rw [decide_eq_true_eq]; omega
  have t3 : decide ((s[i].toNat : Int) ≤ 90) = true := by rw [decide_eq_true_eq]; omega
  have HW0 : Hid (wordZ (s[i].toNat : Int) = true) := by show _ = _; rw [wordZ, hc]; simp
  clear hc hr
  go_enter Tryd.func57, Tryd.ntmps57
  go_wp2_with fail
  have x1 := boxed5_new w (.int .i64 0) (.string ⟨#[]⟩) (.int .i64 0) (.int .i64 0) (.int .i64 0)
  have b1 := stands_alloc w (.cells #[.int .i64 0, .string ⟨#[]⟩, .int .i64 0, .int .i64 0, .int .i64 0] 71)
  have s1 := World.size_alloc w (.cells #[.int .i64 0, .string ⟨#[]⟩, .int .i64 0, .int .i64 0, .int .i64 0] 71)
  generalize w.alloc (.cells #[.int .i64 0, .string ⟨#[]⟩, .int .i64 0, .int .i64 0, .int .i64 0] 71) = w1 at *
  go_loop [7] (fun n => ∃ k : Nat, n = .int .i64 k ∧ 1 ≤ k ∧ i + k ≤ s.size ∧ Hid (∀ p (h : p < s.size), i ≤ p → p < i + k → wordZ (s[p].toNat : Int) = true)) (fun n => s.size - (intOf n).toNat)
  case atStart => exact ⟨1, rfl, Nat.le_refl _, by omega, fun p hp h1 h2 => by
    obtain rfl : p = i := by omega
    exact HW0.out⟩
  case round =>
    obtain ⟨k, rfl, hk1, hks, hall⟩ := hrel
    have i4 : ((i : Int) + (k : Int)).toNat = i + k := by omega
    have hwr : IntKind.i64.wrap ((i : Int) + (k : Int)) = (i : Int) + (k : Int) := by rw [IntKind.wrap_i64]; omega
    by_cases hlt : i + k < s.size
    · obtain ⟨q, hq⟩ : ∃ q : Bool, wordZ (s[i + k].toNat : Int) = q := ⟨_, rfl⟩
      have hj0 : (0 : Int) ≤ (i : Int) + (k : Int) := by omega
      have hj1 : (i : Int) + (k : Int) < (s.size : Int) := by omega
      have HQ := Lib.hid hq; clear hq
      go_wp2_with fail
      refine (rword_any _ _).mono ?_
      rw [HQ.out]
      rintro e w' ⟨rfl, rfl⟩
      cases q with
      | true =>
        have HN : Hid (∀ p (h : p < s.size), i ≤ p → p < i + (k + 1) → wordZ (s[p].toNat : Int) = true) := fun p hp h1 h2 => by
          by_cases e : p = i + k
          · subst e; exact HQ.out
          · exact hall.out p hp h1 (by omega)
        go_wp2_with fail
        go_round
        case rel => exact ⟨k + 1, by go_num, by omega, by omega, HN⟩
        case measure => simp [intOf]; omega
      | false =>
        have hsp := span_from wordZ s i k (by omega) hall.out (fun _ => HQ.out)
        obtain ⟨hx1, hx2⟩ := text_from wordZ s i k hsp
        have HR := Lib.hid (var_from s i k hi hsp HC.out)

        generalize (s.data.toList.drop i).takeWhile (onB wordZ) = l at *
        have HX1 := Lib.hid hx1
        have hus : (⟨l.toArray⟩ : ByteArray).size = l.length := size_mk l
        clear hx1 hall hsp
        go_wp2_with fail
        rw [HX1.out]
        have x2 := boxed5_new w1 (.int .i64 1) (.string ⟨l.toArray⟩) (.int .i64 0) (.int .i64 0) (.int .i64 0)
        have b2 := stands_alloc w1 (.cells #[.int .i64 1, .string ⟨l.toArray⟩, .int .i64 0, .int .i64 0, .int .i64 0] 71)
        generalize w1.alloc (.cells #[.int .i64 1, .string ⟨l.toArray⟩, .int .i64 0, .int .i64 0, .int .i64 0] 71) = w2 at *
        rw [s1] at x2
        have B2 := Lib.hid (Below.step b1 b2)
        have R2 := x1.on b2
        obtain ⟨r0, r1, r2, r3, r4⟩ := R2.cells
        have z0 := frozen_of_row w2 _ 0 _ _ R2
        have z1 := frozen_of_row w2 _ 1 _ _ R2
        have z2 := frozen_of_row w2 _ 2 _ _ R2
        have z3 := frozen_of_row w2 _ 3 _ _ R2
        have z4 := frozen_of_row w2 _ 4 _ _ R2
        obtain ⟨p0, p1, p2, p3, p4⟩ := x2.cells
        have f0 := frozen_of_row w2 _ 0 _ _ x2
        clear R2 x2 b2
        refine (refName_any _ _ (by rw [hus]; unfold maxLen; omega)).mono ?_
        rintro e w' ⟨rfl, rfl⟩
        by_cases hn : 16 < k
        · have HE : Hid (readL (s[i].toNat : Int) (s.data.toList.drop i) = none) := by show _ = _; rw [HR.out, if_pos hn]
          have t5 : decide ((k : Int) ≤ 16) = false := by rw [decide_eq_false_iff_not]; omega
          go_wp2_with fail
          refine bodyPost_ret (v := .tuple #[.agg #[.int .i64 0, .string ⟨#[]⟩, .int .i64 0, .int .i64 0, .int .i64 0], .int .i64 0]) (by simp [results, Tryd.results57, go_sem, r0, r1, r2, r3, r4]) rfl ?_
          rw [HE.out]
          exact ⟨rfl, stored5 (B2.out.setCell (p := ⟨w.heap.size + 1, 0, none⟩) (by simp) _) _ (Nat.le_refl _) _ _ _ _ _⟩
        · have HE : Hid (readL (s[i].toNat : Int) (s.data.toList.drop i) = some ⟨2, l, 0, k⟩) := by show _ = _; rw [HR.out, if_neg hn]
          have t5 : decide ((k : Int) ≤ 16) = true := by rw [decide_eq_true_eq]; omega
          clear hn
          go_wp2_with fail
          refine bodyPost_ret (v := .tuple #[.agg #[.int .i64 2, .string ⟨l.toArray⟩, .int .i64 0, .int .i64 0, .int .i64 0], .int .i64 k]) (by simp [results, Tryd.results57, go_sem, r0, r1, r2, r3, r4]) rfl ?_
          rw [HE.out]
          exact ⟨rfl, stored5 (B2.out.setCell (p := ⟨w.heap.size + 1, 0, none⟩) (by simp) _) _ (Nat.le_refl _) _ _ _ _ _⟩
    · have hsp := span_from wordZ s i k (by omega) hall.out (fun h => absurd h hlt)
      obtain ⟨hx1, hx2⟩ := text_from wordZ s i k hsp
      have HR := Lib.hid (var_from s i k hi hsp HC.out)

      generalize (s.data.toList.drop i).takeWhile (onB wordZ) = l at *
      have HX1 := Lib.hid hx1
      have hus : (⟨l.toArray⟩ : ByteArray).size = l.length := size_mk l
      clear hx1 hall hsp
      go_wp2_with fail
      rw [HX1.out]
      have x2 := boxed5_new w1 (.int .i64 1) (.string ⟨l.toArray⟩) (.int .i64 0) (.int .i64 0) (.int .i64 0)
      have b2 := stands_alloc w1 (.cells #[.int .i64 1, .string ⟨l.toArray⟩, .int .i64 0, .int .i64 0, .int .i64 0] 71)
      generalize w1.alloc (.cells #[.int .i64 1, .string ⟨l.toArray⟩, .int .i64 0, .int .i64 0, .int .i64 0] 71) = w2 at *
      rw [s1] at x2
      have B2 := Lib.hid (Below.step b1 b2)
      have R2 := x1.on b2
      obtain ⟨r0, r1, r2, r3, r4⟩ := R2.cells
      have z0 := frozen_of_row w2 _ 0 _ _ R2
      have z1 := frozen_of_row w2 _ 1 _ _ R2
      have z2 := frozen_of_row w2 _ 2 _ _ R2
      have z3 := frozen_of_row w2 _ 3 _ _ R2
      have z4 := frozen_of_row w2 _ 4 _ _ R2
      obtain ⟨p0, p1, p2, p3, p4⟩ := x2.cells
      have f0 := frozen_of_row w2 _ 0 _ _ x2
      clear R2 x2 b2
      refine (refName_any _ _ (by rw [hus]; unfold maxLen; omega)).mono ?_
      rintro e w' ⟨rfl, rfl⟩
      by_cases hn : 16 < k
      · have HE : Hid (readL (s[i].toNat : Int) (s.data.toList.drop i) = none) := by show _ = _; rw [HR.out, if_pos hn]
        have t5 : decide ((k : Int) ≤ 16) = false := by rw [decide_eq_false_iff_not]; omega
        go_wp2_with fail
        refine bodyPost_ret (v := .tuple #[.agg #[.int .i64 0, .string ⟨#[]⟩, .int .i64 0, .int .i64 0, .int .i64 0], .int .i64 0]) (by simp [results, Tryd.results57, go_sem, r0, r1, r2, r3, r4]) rfl ?_
        rw [HE.out]
        exact ⟨rfl, stored5 (B2.out.setCell (p := ⟨w.heap.size + 1, 0, none⟩) (by simp) _) _ (Nat.le_refl _) _ _ _ _ _⟩
      · have HE : Hid (readL (s[i].toNat : Int) (s.data.toList.drop i) = some ⟨2, l, 0, k⟩) := by show _ = _; rw [HR.out, if_neg hn]
        have t5 : decide ((k : Int) ≤ 16) = true := by rw [decide_eq_true_eq]; omega
        clear hn
        go_wp2_with fail
        refine bodyPost_ret (v := .tuple #[.agg #[.int .i64 2, .string ⟨l.toArray⟩, .int .i64 0, .int .i64 0, .int .i64 0], .int .i64 k]) (by simp [results, Tryd.results57, go_sem, r0, r1, r2, r3, r4]) rfl ?_
        rw [HE.out]
        exact ⟨rfl, stored5 (B2.out.setCell (p := ⟨w.heap.size + 1, 0, none⟩) (by simp) _) _ (Nat.le_refl _) _ _ _ _ _⟩

end Go.Proofs.YtgpgjaenbhbbgaaDoor
