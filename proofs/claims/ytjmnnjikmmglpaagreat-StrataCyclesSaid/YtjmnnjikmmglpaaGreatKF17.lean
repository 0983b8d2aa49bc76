/-
  Variable
-/
import Derived.Test.YtjmnnjikmmglpaaGreatKF02
namespace Go.Proofs.YtjmnnjikmmglpaaGreat
open Go.RowKit
theorem pgreat_any (r : Int) (w : World) : Calls Tryz.prog 165 #[.int .i32 r] w fun e w' => e = .returned (.bool (greatB r)) ∧ w = w' := by
 by_cases h1 : 65 ≤ r
 ·by_cases h2 : r ≤ 90
  ·have HF : Hid (greatB r = true) := decide_eq_true ⟨h1, h2⟩
   go_enter Tryz.func165, Tryz.ntmps165
   go_wp2
   go_ret
   exact ⟨ret_bool HF.out.symm, rfl⟩
  ·have HF : Hid (greatB r = false) := decide_eq_false (by omega)
   go_enter Tryz.func165, Tryz.ntmps165
   go_wp2
   go_ret
   exact ⟨ret_bool HF.out.symm, rfl⟩
 ·have HF : Hid (greatB r = false) := decide_eq_false (by omega)
  have hd : decide (65 ≤ r) = false := by simpa using h1
  go_enter Tryz.func165, Tryz.ntmps165
  go_wp2
  go_ret
  exact ⟨ret_bool HF.out.symm, rfl⟩
theorem psmall_any (r : Int) (w : World) : Calls Tryz.prog 166 #[.int .i32 r] w fun e w' => e = .returned (.bool (smallB r)) ∧ w = w' := by
 by_cases h1 : 97 ≤ r
 ·by_cases h2 : r ≤ 122
  ·have HF : Hid (smallB r = true) := decide_eq_true ⟨h1, h2⟩
   go_enter Tryz.func166, Tryz.ntmps166
   go_wp2
   go_ret
   exact ⟨ret_bool HF.out.symm, rfl⟩
  ·have HF : Hid (smallB r = false) := decide_eq_false (by omega)
   go_enter Tryz.func166, Tryz.ntmps166
   go_wp2
   go_ret
   exact ⟨ret_bool HF.out.symm, rfl⟩
 ·have HF : Hid (smallB r = false) := decide_eq_false (by omega)
  have hd : decide (97 ≤ r) = false := by simpa using h1
  go_enter Tryz.func166, Tryz.ntmps166
  go_wp2
  go_ret
  exact ⟨ret_bool HF.out.symm, rfl⟩
theorem pdigit_any (r : Int) (w : World) : Calls Tryz.prog 167 #[.int .i32 r] w fun e w' => e = .returned (.bool (digitB r)) ∧ w = w' := by
 by_cases h1 : 48 ≤ r
 ·by_cases h2 : r ≤ 57
  ·have HF : Hid (digitB r = true) := decide_eq_true ⟨h1, h2⟩
   go_enter Tryz.func167, Tryz.ntmps167
   go_wp2
   go_ret
   exact ⟨ret_bool HF.out.symm, rfl⟩
  ·have HF : Hid (digitB r = false) := decide_eq_false (by omega)
   go_enter Tryz.func167, Tryz.ntmps167
   go_wp2
   go_ret
   exact ⟨ret_bool HF.out.symm, rfl⟩
 ·have HF : Hid (digitB r = false) := decide_eq_false (by omega)
  have hd : decide (48 ≤ r) = false := by simpa using h1
  go_enter Tryz.func167, Tryz.ntmps167
  go_wp2
  go_ret
  exact ⟨ret_bool HF.out.symm, rfl⟩
set_option maxRecDepth 100000 in
set_option maxHeartbeats 1000000 in
theorem variable_any (s : ByteArray) (w : World) (hs : s.size ≤ maxLen) :
  Calls Tryz.prog 133 #[.string s] w fun e w' => e = .returned (.bool (varB s)) ∧ Below w.heap.size w w' := by
 unfold maxLen at hs
 by_cases hz : s.size < 1
 ·have HF := Lib.hid (varB_size (s := s) (Or.inl hz))
  go_enter Tryz.func133, Tryz.ntmps133
  go_wp2_with fail
  go_ret
  exact ⟨ret_bool HF.out.symm, Below.refl _ _⟩
 by_cases hz2 : 16 < s.size
 ·have HF := Lib.hid (varB_size (s := s) (Or.inr hz2))
  go_enter Tryz.func133, Tryz.ntmps133
  go_wp2_with fail
  go_ret
  exact ⟨ret_bool HF.out.symm, Below.refl _ _⟩
 have hb1 : decide ((s.size : Int) < 1) = false := by simp; omega
 have hb2 : decide (16 < (s.size : Int)) = false := by simp; omega
 go_enter Tryz.func133, Tryz.ntmps133
 go_wp2_with fail
 go_loopw [2] (fun _ w' => ∃ (pos : Nat), w' = w.iter s pos ∧ pos ≤ s.size ∧ Hid (∀ i (h : i < s.size), i < pos → okVar i (s[i].toNat : Int) = true)) (fun _ w' => s.size - w'.iterPos w.heap.size)
 case atStart => exact ⟨0, rfl, Nat.zero_le _, fun i _ hi => by omega⟩
 case round =>
  obtain ⟨pos, rfl, hpos, hok⟩ := hrel;have hbel : Below w.heap.size w (w.iter s (pos + (Utf8.decode s pos).2)) := (Below.refl _ w).alloc (Nat.le_refl _) _;have hbel0 : Below w.heap.size w (w.iter s pos) := (Below.refl _ w).alloc (Nat.le_refl _) _
  by_cases hp : pos < s.size
  ·have hnx : ∀ ty, (Instr.next (.pointer (some ⟨w.heap.size, 0, none⟩)) true ty).run Tryz.prog (w.iter s pos) = _ := fun ty => run_next_any w s pos ty hp
   have hru := rune_at s pos hp
   have HOK : Hid ((okVar pos ((Utf8.decode s pos).1 : Int) = true → okVar pos (s[pos].toNat : Int) = true ∧ (Utf8.decode s pos).2 = 1) ∧ (okVar pos ((Utf8.decode s pos).1 : Int) = false → okVar pos (s[pos].toNat : Int) = false)) := by
    show _ ∧ _
    rcases hru with ⟨c, hc, he, hcc⟩ | ⟨h1, h2, h3⟩
    ·rw [he, hcc]; exact ⟨fun h => ⟨h, rfl⟩, fun h => h⟩
    ·rw [okVar_high _ _ (by omega : (128 : Int) ≤ ((Utf8.decode s pos).1 : Int)), okVar_high _ _ (by omega : (128 : Int) ≤ (s[pos].toNat : Int))]; exact ⟨(fun h => by cases h), fun h => h⟩
   clear hru;generalize hd : Utf8.decode s pos = d at *;obtain ⟨r, wd⟩ := d;clear hd
   dsimp only at hnx HOK hbel
   cases h0 : greatB (r : Int) with
   | true =>
    have HK : Hid (okVar pos (r : Int) = true) := by show _ = _; simp [okVar, h0]
    go_wp2_with (first | (go_at_call 165; refine (pgreat_any _ _).mono ?_; rintro e w' ⟨rfl, rfl⟩) | (go_at_call 166; refine (psmall_any _ _).mono ?_; rintro e w' ⟨rfl, rfl⟩) | (go_at_call 167; refine (pdigit_any _ _).mono ?_; rintro e w' ⟨rfl, rfl⟩))
    go_roundw
    case rel =>
     obtain ⟨g1, g2⟩ := HOK.out.1 HK.out;refine ⟨pos + wd, rfl, by omega, fun i hi hi2 => ?_⟩
     by_cases e : i = pos
     ·subst e; exact g1
     ·exact hok.out i hi (by omega)
    case measure =>
     obtain ⟨g1, g2⟩ := HOK.out.1 HK.out;simp
     omega
   | false =>
   by_cases h2 : pos = 0
   ·have HK : Hid (okVar pos (r : Int) = false) := by show _ = _; simp [okVar, h0, h2]
    have h2' : ((pos : Int) == 0) = true := by simp [h2]
    clear h2;go_wp2_with (first | (go_at_call 165; refine (pgreat_any _ _).mono ?_; rintro e w' ⟨rfl, rfl⟩) | (go_at_call 166; refine (psmall_any _ _).mono ?_; rintro e w' ⟨rfl, rfl⟩) | (go_at_call 167; refine (pdigit_any _ _).mono ?_; rintro e w' ⟨rfl, rfl⟩))
    go_ret
    exact ⟨ret_bool (varB_false hp (HOK.out.2 HK.out)).symm, hbel⟩
   have h2' : ((pos : Int) == 0) = false := by simp [h2]
   cases h1 : smallB (r : Int) with
   | true =>
    have HK : Hid (okVar pos (r : Int) = true) := by show _ = _; simp [okVar, h1, h2]
    clear h2;go_wp2_with (first | (go_at_call 165; refine (pgreat_any _ _).mono ?_; rintro e w' ⟨rfl, rfl⟩) | (go_at_call 166; refine (psmall_any _ _).mono ?_; rintro e w' ⟨rfl, rfl⟩) | (go_at_call 167; refine (pdigit_any _ _).mono ?_; rintro e w' ⟨rfl, rfl⟩))
    go_roundw
    case rel =>
     obtain ⟨g1, g2⟩ := HOK.out.1 HK.out;refine ⟨pos + wd, rfl, by omega, fun i hi hi2 => ?_⟩
     by_cases e : i = pos
     ·subst e; exact g1
     ·exact hok.out i hi (by omega)
    case measure =>
     obtain ⟨g1, g2⟩ := HOK.out.1 HK.out;simp
     omega
   | false =>
   cases h3 : digitB (r : Int) with
   | true =>
    have HK : Hid (okVar pos (r : Int) = true) := by show _ = _; simp [okVar, h2, h3]
    clear h2;go_wp2_with (first | (go_at_call 165; refine (pgreat_any _ _).mono ?_; rintro e w' ⟨rfl, rfl⟩) | (go_at_call 166; refine (psmall_any _ _).mono ?_; rintro e w' ⟨rfl, rfl⟩) | (go_at_call 167; refine (pdigit_any _ _).mono ?_; rintro e w' ⟨rfl, rfl⟩))
    go_roundw
    case rel =>
     obtain ⟨g1, g2⟩ := HOK.out.1 HK.out;refine ⟨pos + wd, rfl, by omega, fun i hi hi2 => ?_⟩
     by_cases e : i = pos
     ·subst e; exact g1
     ·exact hok.out i hi (by omega)
    case measure =>
     obtain ⟨g1, g2⟩ := HOK.out.1 HK.out;simp
     omega
   | false =>
   by_cases h4 : (r : Int) = 95
   ·have HK : Hid (okVar pos (r : Int) = true) := by show _ = _; simp [okVar, h2, h4]
    have h4' : ((r : Int) != 95) = false := by simp [h4]
    clear h2 h4;go_wp2_with (first | (go_at_call 165; refine (pgreat_any _ _).mono ?_; rintro e w' ⟨rfl, rfl⟩) | (go_at_call 166; refine (psmall_any _ _).mono ?_; rintro e w' ⟨rfl, rfl⟩) | (go_at_call 167; refine (pdigit_any _ _).mono ?_; rintro e w' ⟨rfl, rfl⟩))
    go_roundw
    case rel =>
     obtain ⟨g1, g2⟩ := HOK.out.1 HK.out;refine ⟨pos + wd, rfl, by omega, fun i hi hi2 => ?_⟩
     by_cases e : i = pos
     ·subst e; exact g1
     ·exact hok.out i hi (by omega)
    case measure =>
     obtain ⟨g1, g2⟩ := HOK.out.1 HK.out;simp
     omega
   ·have HK : Hid (okVar pos (r : Int) = false) := by show _ = _; simp [okVar, h0, h1, h3, h4]
    have h4' : ((r : Int) != 95) = true := by simp [h4]
    clear h2 h4;go_wp2_with (first | (go_at_call 165; refine (pgreat_any _ _).mono ?_; rintro e w' ⟨rfl, rfl⟩) | (go_at_call 166; refine (psmall_any _ _).mono ?_; rintro e w' ⟨rfl, rfl⟩) | (go_at_call 167; refine (pdigit_any _ _).mono ?_; rintro e w' ⟨rfl, rfl⟩))
    go_ret
    exact ⟨ret_bool (varB_false hp (HOK.out.2 HK.out)).symm, hbel⟩
  ·have hnx : ∀ ty, (Instr.next (.pointer (some ⟨w.heap.size, 0, none⟩)) true ty).run Tryz.prog (w.iter s pos) = _ := fun ty => run_next_end w s pos ty hp
   have HF := Lib.hid (varB_true (s := s) (by omega) (by omega) (fun i hi => hok.out i hi (by omega)));go_wp2_with fail
   go_ret
   exact ⟨ret_bool HF.out.symm, hbel0⟩
end Go.Proofs.YtjmnnjikmmglpaaGreat
