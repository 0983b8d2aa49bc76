/-
  The document's own word, digit, blank and place of a text, as contracts.
-/
import Derived.Test.YtgpgjaenbhbbgaaDoorRefLexData
namespace Go.Proofs.YtgpgjaenbhbbgaaDoor
open Go.RowKit

theorem rword_any (z : Int) (w : World) : Calls Tryd.prog 84 #[.int .u8 z] w fun e w' => e = .returned (.bool (wordZ z)) ∧ w = w' := by
  have HF : Hid (wordZ z = (smallZ z || (greatZ z || (digitZ z || (z == 95))))) := rfl
  have hcases : (97 ≤ z ∧ z ≤ 122) ∨ 122 < z ∨ z < 48 ∨ (48 ≤ z ∧ z ≤ 57) ∨ (57 < z ∧ z < 65) ∨ (65 ≤ z ∧ z ≤ 90) ∨ z = 95 ∨ (90 < z ∧ z < 97 ∧ z ≠ 95) := by omega
  rcases hcases with a | a | a | a | a | a | a | a
  · have t1 : decide (97 ≤ z) = true := by simp; omega
    have t2 : decide (z ≤ 122) = true := by simp; omega
    have HE : Hid (wordZ z = true) := by show _ = _; rw [HF.out, small_range.2 a]; rfl
    go_enter Tryd.func84, Tryd.ntmps84
    go_wp2
    go_ret
    exact ⟨ret_bool HE.out.symm, rfl⟩
  · have t1 : decide (97 ≤ z) = true := by simp; omega
    have t2 : decide (z ≤ 122) = false := by simp; omega
    have t3 : decide (65 ≤ z) = true := by simp; omega
    have t4 : decide (z ≤ 90) = false := by simp; omega
    have t5 : decide (48 ≤ z) = true := by simp; omega
    have t6 : decide (z ≤ 57) = false := by simp; omega
    have t7 : (z == 95) = false := by simp; omega
    have HE : Hid (wordZ z = false) := by show _ = _; rw [HF.out, not_small (by omega), not_great (by omega), not_digit (by omega), t7]; rfl
    go_enter Tryd.func84, Tryd.ntmps84
    go_wp2
    go_ret
    exact ⟨ret_bool HE.out.symm, rfl⟩
  · have t1 : decide (97 ≤ z) = false := by simp; omega
    have t3 : decide (65 ≤ z) = false := by simp; omega
    have t5 : decide (48 ≤ z) = false := by simp; omega
    have t7 : (z == 95) = false := by simp; omega
    have HE : Hid (wordZ z = false) := by show _ = _; rw [HF.out, not_small (by omega), not_great (by omega), not_digit (by omega), t7]; rfl
    go_enter Tryd.func84, Tryd.ntmps84
    go_wp2
    go_ret
    exact ⟨ret_bool HE.out.symm, rfl⟩
  · have t1 : decide (97 ≤ z) = false := by simp; omega
    have t3 : decide (65 ≤ z) = false := by simp; omega
    have t5 : decide (48 ≤ z) = true := by simp; omega
    have t6 : decide (z ≤ 57) = true := by simp; omega
    have HE : Hid (wordZ z = true) := by show _ = _; rw [HF.out, digit_range.2 a]; simp
    go_enter Tryd.func84, Tryd.ntmps84
    go_wp2
    go_ret
    exact ⟨ret_bool HE.out.symm, rfl⟩
  · have t1 : decide (97 ≤ z) = false := by simp; omega
    have t3 : decide (65 ≤ z) = false := by simp; omega
    have t5 : decide (48 ≤ z) = true := by simp; omega
    have t6 : decide (z ≤ 57) = false := by simp; omega
    have t7 : (z == 95) = false := by simp; omega
    have HE : Hid (wordZ z = false) := by show _ = _; rw [HF.out, not_small (by omega), not_great (by omega), not_digit (by omega), t7]; rfl
    go_enter Tryd.func84, Tryd.ntmps84
    go_wp2
    go_ret
    exact ⟨ret_bool HE.out.symm, rfl⟩
  · have t1 : decide (97 ≤ z) = false := by simp; omega
    have t3 : decide (65 ≤ z) = true := by simp; omega
    have t4 : decide (z ≤ 90) = true := by simp; omega
    have HE : Hid (wordZ z = true) := by show _ = _; rw [HF.out, great_range.2 a]; simp
    go_enter Tryd.func84, Tryd.ntmps84
    go_wp2
    go_ret
    exact ⟨ret_bool HE.out.symm, rfl⟩
  · subst a
    go_enter Tryd.func84, Tryd.ntmps84
    go_wp2
    go_ret
    exact ⟨rfl, rfl⟩
  · have t1 : decide (97 ≤ z) = false := by simp; omega
    have t3 : decide (65 ≤ z) = true := by simp; omega
    have t4 : decide (z ≤ 90) = false := by simp; omega
    have t5 : decide (48 ≤ z) = true := by simp; omega
    have t6 : decide (z ≤ 57) = false := by simp; omega
    have t7 : (z == 95) = false := by simp; omega
    have HE : Hid (wordZ z = false) := by show _ = _; rw [HF.out, not_small (by omega), not_great (by omega), not_digit (by omega), t7]; rfl
    go_enter Tryd.func84, Tryd.ntmps84
    go_wp2
    go_ret
    exact ⟨ret_bool HE.out.symm, rfl⟩

theorem rdigit_any (r : Int) (w : World) : Calls Tryd.prog 86 #[.int .u8 r] w fun e w' => e = .returned (.bool (digitZ r)) ∧ w = w' := by
  have HF : Hid (digitZ r = (decide (48 ≤ r) && decide (r ≤ 57))) := by show _ = _; rw [digitZ, Bool.decide_and]
  cases h1 : decide (48 ≤ r) <;> cases h2 : decide (r ≤ 57) <;>
  · rw [h1, h2] at HF
    go_enter Tryd.func86, Tryd.ntmps86
    go_wp2
    go_ret
    exact ⟨ret_bool HF.out.symm, rfl⟩

theorem boxed2_set {w : World} {k : Nat} {c0 c1 : Value} (h : Boxed2 w k c0 c1) (d0 d1 : Value) : Boxed2 ((w.setCell ⟨k, 0, none⟩ d0).setCell ⟨k, 1, none⟩ d1) k d0 d1 :=
  heap_setCell_same _ _ _ _ _ _ (heap_setCell_same _ _ _ _ _ _ h)
theorem boxed2_set1 {w : World} {k : Nat} {c0 c1 : Value} (h : Boxed2 w k c0 c1) (d1 : Value) : Boxed2 (w.setCell ⟨k, 1, none⟩ d1) k c0 d1 :=
  heap_setCell_same _ _ _ _ _ _ h

/-- The place of a byte. -/
def PlacePost (p : Nat × Nat) (w : World) (e : Ending) (w' : World) : Prop := e = .returned (.agg #[.int .i64 p.1, .int .i64 p.2]) ∧ Below w.heap.size w w'

set_option maxRecDepth 100000 in
set_option maxHeartbeats 4000000 in
theorem rplace_any (s : ByteArray) (n : Nat) (w : World) (hs : s.size ≤ 20000) (hn : n ≤ s.size) :
    Calls Tryd.prog 56 #[.string s, .int .i64 n] w (PlacePost (placeS s n) w) := by
  go_enter Tryd.func56, Tryd.ntmps56
  go_wp2_with fail
  have x1 := boxed2_new w (.int .i64 0) (.int .i64 0)
  have b1 := stands_alloc w (.cells #[.int .i64 0, .int .i64 0] 46)
  have s1 := World.size_alloc w (.cells #[.int .i64 0, .int .i64 0] 46)
  generalize w.alloc (.cells #[.int .i64 0, .int .i64 0] 46) = w1 at *
  have x2 := boxed2_new w1 (.int .i64 1) (.int .i64 1)
  have b2 := stands_alloc w1 (.cells #[.int .i64 1, .int .i64 1] 46)
  have s2 := World.size_alloc w1 (.cells #[.int .i64 1, .int .i64 1] 46)
  generalize w1.alloc (.cells #[.int .i64 1, .int .i64 1] 46) = w2 at *
  rw [s1] at x2
  have X1 := Lib.hid (x1.on b2); have X2 := Lib.hid x2; have B2 := Lib.hid (Below.step b1 b2)
  have hs2 : w2.heap.size = w.heap.size + 2 := by omega
  clear x1 x2 b1 b2 s1 s2
  go_loopw [6] (fun k wr => ∃ j : Nat, j ≤ n ∧ k = .int .i64 j ∧ Boxed2 wr (w.heap.size + 1) (.int .i64 (placeS s j).1) (.int .i64 (placeS s j).2) ∧ Below (w.heap.size + 1) w2 wr) (fun k _ => n - (intOf k).toNat)
  case atStart => exact ⟨0, Nat.zero_le _, rfl, by rw [placeS_zero]; exact X2.out, Below.refl _ _⟩
  case round =>
    obtain ⟨j, hj, rfl, hb2, hbel⟩ := hrel
    have HB2 := Lib.hid hb2; have HBEL := Lib.hid hbel
    have hbd := placeS_bd s j
    have hsz := hbel.size
    by_cases hlt : j < n
    · have hjs : j < s.size := by omega
      obtain ⟨p0, p1⟩ := hb2.cells
      have z0 := frozen_of_row wr _ 0 _ _ hb2
      have z1 := frozen_of_row wr _ 1 _ _ hb2
      have HN := Lib.hid (placeS_next s j hjs)
      generalize hc : s[j] = c at *
      generalize placeS s j = p at *
      obtain ⟨a, b⟩ := p
      dsimp only at p0 p1 HN hbd
      clear hb2 hbel
      have hcu : (c.toNat : Int) ≤ 255 := by have := c.toNat_lt; omega
      have HC := Lib.hid hc; clear hc
      by_cases h10 : c.toNat = 10
      · have HG : Hid (placeS s (j + 1) = (a + 1, 1)) := by show _ = _; rw [HN.out, goOn, if_pos h10]
        have hcx : ((s[j].toNat : Int) == 10) = true := by rw [HC.out]; simp [h10]
        have ha : IntKind.i64.wrap ((a : Int) + 1) = (a : Int) + 1 := by rw [IntKind.wrap_i64]; omega
        have HA1 : Hid ((a : Int) + 1 = ((a + 1 : Nat) : Int)) := by show _ = _; omega
        go_wp2_with fail
        go_roundw
        case rel => exact ⟨j + 1, by omega, by go_num, by rw [HG.out]; simp only []; rw [← HA1.out]; exact boxed2_set HB2.out _ _, (HBEL.out.setCell (p := ⟨w.heap.size + 1, 0, none⟩) (Nat.le_refl _) _).setCell (p := ⟨w.heap.size + 1, 1, none⟩) (Nat.le_refl _) _⟩
        case measure => simp [intOf]; omega
      · have HG : Hid (placeS s (j + 1) = (a, b + 1)) := by show _ = _; rw [HN.out, goOn, if_neg h10]
        have hcx : ((s[j].toNat : Int) == 10) = false := by rw [HC.out]; simp; omega
        have HA1 : Hid ((b : Int) + 1 = ((b + 1 : Nat) : Int)) := by show _ = _; omega
        go_wp2_with fail
        go_roundw
        case rel => exact ⟨j + 1, by omega, by go_num, by rw [HG.out]; simp only []; rw [← HA1.out]; exact boxed2_set1 HB2.out _, HBEL.out.setCell (p := ⟨w.heap.size + 1, 1, none⟩) (Nat.le_refl _) _⟩
        case measure => simp [intOf]; omega
    · have hje : j = n := by omega
      subst hje
      obtain ⟨p0, p1⟩ := hb2.cells
      have R1 : Boxed2 wr w.heap.size (.int .i64 0) (.int .i64 0) := (hbel.block _ (by omega)).trans X1.out
      obtain ⟨r0, r1⟩ := R1.cells
      have z0 := frozen_of_row wr _ 0 _ _ R1
      have z1 := frozen_of_row wr _ 1 _ _ R1
      have HBW := Lib.hid (B2.out.trans (hbel.mono (by omega)))
      generalize placeS s j = p at *
      obtain ⟨a, b⟩ := p
      clear hb2 hbel R1 hbd
      go_wp2_with fail
      refine bodyPost_ret (v := .agg #[.int .i64 a, .int .i64 b]) (by simp [results, Tryd.results56, go_sem, r0, r1]) rfl ?_
      exact ⟨rfl, stored2 HBW.out _ (Nat.le_refl _) _ _⟩

/-- The blanks and comments that stand at a place, behind these tokens. -/
def BlankPost (s : ByteArray) (i : Nat) (toks : List Tok) (w : World) (e : Ending) (w' : World) : Prop :=
  ∃ n : Nat, e = .returned (.int .i64 n) ∧ Reads s (i + n) toks ∧ (∀ h : i + n < s.size, blankZ (s[i + n].toNat : Int) = false ∧ s[i + n].toNat ≠ 37) ∧ w = w'

set_option maxRecDepth 100000 in
set_option maxHeartbeats 4000000 in
theorem rblank_any (s : ByteArray) (i : Nat) (toks : List Tok) (w : World) (hs : s.size ≤ 20000) (hr : Reads s i toks) :
    Calls Tryd.prog 55 #[.string s, .int .i64 i] w (BlankPost s i toks w) := by
  have HR := Lib.hid hr
  have hile := hr.le
  clear hr
  go_enter Tryd.func55, Tryd.ntmps55
  go_wp2_with fail
  go_loop [5] (fun n => ∃ k : Nat, n = .int .i64 k ∧ Hid (Reads s (i + k) toks)) (fun n => s.size - (intOf n).toNat)
  case atStart => exact ⟨0, rfl, HR.out⟩
  case round =>
    obtain ⟨k, rfl, hrd⟩ := hrel
    have hle := hrd.out.le
    have i4 : ((i : Int) + (k : Int)).toNat = i + k := by omega
    have hwr : IntKind.i64.wrap ((i : Int) + (k : Int)) = (i : Int) + (k : Int) := by rw [IntKind.wrap_i64]; omega
    by_cases hlt : i + k < s.size
    · have hi0 : (0 : Int) ≤ (i : Int) + (k : Int) := by omega
      have hi1 : (i : Int) + (k : Int) < (s.size : Int) := by omega
      obtain ⟨c, hc⟩ : ∃ c : UInt8, s[i + k] = c := ⟨_, rfl⟩
      have HC := Lib.hid hc; clear hc
      have hcu : (c.toNat : Int) ≤ 255 := by have := c.toNat_lt; omega
      have hcases : (c.toNat : Int) = 37 ∨ (c.toNat : Int) = 32 ∨ (c.toNat : Int) = 9 ∨ (c.toNat : Int) = 10 ∨ ((c.toNat : Int) ≠ 37 ∧ (c.toNat : Int) ≠ 32 ∧ (c.toNat : Int) ≠ 9 ∧ (c.toNat : Int) ≠ 10) := by omega
      rcases hcases with a | a | a | a | ⟨a1, a2, a3, a4⟩
      · have t0 : ((s[i + k].toNat : Int) == 37) = true := by rw [HC.out, a]; rfl
        have HC37 : Hid (s[i + k].toNat = 37) := by show _ = _; rw [HC.out]; omega
        clear a
        go_wp2_with fail
        go_loop [5] (fun n => ∃ m : Nat, n = .int .i64 m ∧ k ≤ m ∧ i + m ≤ s.size ∧ Hid (∀ p (h : p < s.size), i + k ≤ p → p < i + m → s[p].toNat ≠ 10)) (fun n => s.size - (intOf n).toNat)
        case atStart => exact ⟨k, rfl, Nat.le_refl _, by omega, fun p _ h1 h2 => by omega⟩
        case round =>
          obtain ⟨m, rfl, hkm, hms, hno⟩ := hrel
          have j4 : ((i : Int) + (m : Int)).toNat = i + m := by omega
          have hwm : IntKind.i64.wrap ((i : Int) + (m : Int)) = (i : Int) + (m : Int) := by rw [IntKind.wrap_i64]; omega
          by_cases hm : i + m < s.size
          · have hj0 : (0 : Int) ≤ (i : Int) + (m : Int) := by omega
            have hj1 : (i : Int) + (m : Int) < (s.size : Int) := by omega
            by_cases h10 : s[i + m].toNat = 10
            · have u0 : ((s[i + m].toNat : Int) != 10) = false := by rw [h10]; rfl
              have hne : k + 1 ≤ m := by
                by_cases e : k = m
                · subst e; rw [HC37.out] at h10; omega
                · omega
              have HN : Hid (Reads s (i + m) toks) := by
                have := hrd.out.comment hlt HC37.out (n := m - k) (by omega) (by omega) (fun p hp h1 h2 => hno.out p hp h1 (by omega)) (fun h => by
                  have e : i + k + (m - k) = i + m := by omega
                  simp only [e]; exact h10)
                rwa [show i + k + (m - k) = i + m by omega] at this
              clear t0
              go_wp2_with fail
              go_round
              case rel => exact ⟨m, rfl, HN⟩
              case measure => simp [intOf]; omega
            · have u0 : ((s[i + m].toNat : Int) != 10) = true := by rw [bne_iff_ne]; omega
              have HN : Hid (∀ p (h : p < s.size), i + k ≤ p → p < i + (m + 1) → s[p].toNat ≠ 10) := fun p hp h1 h2 => by
                by_cases e : p = i + m
                · subst e; exact h10
                · exact hno.out p hp h1 (by omega)
              clear t0
              go_wp2_with fail
              go_round
              case rel => exact ⟨m + 1, by go_num, by omega, by omega, HN⟩
              case measure => simp [intOf]; omega
          · have hne : k + 1 ≤ m := by omega
            have HN : Hid (Reads s (i + m) toks) := by
              have := hrd.out.comment hlt HC37.out (n := m - k) (by omega) (by omega) (fun p hp h1 h2 => hno.out p hp h1 (by omega)) (fun h => absurd h (by omega))
              rwa [show i + k + (m - k) = i + m by omega] at this
            clear t0
            go_wp2_with fail
            go_round
            case rel => exact ⟨m, rfl, HN⟩
            case measure => simp [intOf]; omega
      · have t0 : ((s[i + k].toNat : Int) == 37) = false := by rw [HC.out, a]; rfl
        have t1 : ((s[i + k].toNat : Int) != 32) = false := by rw [HC.out, a]; rfl
        have HN : Hid (Reads s (i + (k + 1)) toks) := hrd.out.blank hlt (by rw [HC.out, a]; decide)
        clear a
        go_wp2_with fail
        go_round
        case rel => exact ⟨k + 1, by go_num, HN⟩
        case measure => simp [intOf]; omega
      · have t0 : ((s[i + k].toNat : Int) == 37) = false := by rw [HC.out, a]; rfl
        have t1 : ((s[i + k].toNat : Int) != 32) = true := by rw [HC.out, a]; rfl
        have t2 : ((s[i + k].toNat : Int) != 9) = false := by rw [HC.out, a]; rfl
        have HN : Hid (Reads s (i + (k + 1)) toks) := hrd.out.blank hlt (by rw [HC.out, a]; decide)
        clear a
        go_wp2_with fail
        go_round
        case rel => exact ⟨k + 1, by go_num, HN⟩
        case measure => simp [intOf]; omega
      · have t0 : ((s[i + k].toNat : Int) == 37) = false := by rw [HC.out, a]; rfl
        have t1 : ((s[i + k].toNat : Int) != 32) = true := by rw [HC.out, a]; rfl
        have t2 : ((s[i + k].toNat : Int) != 9) = true := by rw [HC.out, a]; rfl
        have t3 : ((s[i + k].toNat : Int) != 10) = false := by rw [HC.out, a]; rfl
        have HN : Hid (Reads s (i + (k + 1)) toks) := hrd.out.blank hlt (by rw [HC.out, a]; decide)
        clear a
        go_wp2_with fail
        go_round
        case rel => exact ⟨k + 1, by go_num, HN⟩
        case measure => simp [intOf]; omega
      · have t0 : ((s[i + k].toNat : Int) == 37) = false := by rw [HC.out, beq_eq_false_iff_ne]; exact a1
        have t1 : ((s[i + k].toNat : Int) != 32) = true := by rw [HC.out, bne_iff_ne]; exact a2
        have t2 : ((s[i + k].toNat : Int) != 9) = true := by rw [HC.out, bne_iff_ne]; exact a3
        have t3 : ((s[i + k].toNat : Int) != 10) = true := by rw [HC.out, bne_iff_ne]; exact a4
        have HF : Hid (blankZ (s[i + k].toNat : Int) = false ∧ s[i + k].toNat ≠ 37) := by
          refine ⟨?_, ?_⟩
          · rw [HC.out]; simp only [blankZ, Bool.or_eq_false_iff, beq_eq_false_iff_ne]; exact ⟨a2, a3, a4⟩
          · rw [HC.out]; omega
        clear a1 a2 a3 a4
        go_wp2_with fail
        go_ret
        exact ⟨k, rfl, hrd.out, fun _ => HF.out, rfl⟩
    · go_wp2_with fail
      go_ret
      exact ⟨k, rfl, hrd.out, fun h => absurd h hlt, rfl⟩

end Go.Proofs.YtgpgjaenbhbbgaaDoor
