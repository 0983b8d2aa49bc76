/-
  Name, Variable
-/
import Derived.Test.YtjohcnhiblfbnaaGreatDoorR01
import Derived.WalkSpells
import Derived.WalkLawsBesides
namespace Go.Proofs.YtjohcnhiblfbnaaGreatDoor
open Go.RowKit
def smallB (r : Int) : Bool := decide (97 ≤ r ∧ r ≤ 122)
def digitB (r : Int) : Bool := decide (48 ≤ r ∧ r ≤ 57)
def okAt (i : Nat) (r : Int) : Bool := smallB r || (!(decide (i = 0)) && (digitB r || (r == 95)))
def nameB (s : ByteArray) : Bool := decide (1 ≤ s.size ∧ s.size ≤ 16 ∧ ∀ i (h : i < s.size), okAt i (s[i].toNat : Int) = true)
def okText (r : Int) : Bool := decide (32 ≤ r ∧ r ≤ 126 ∧ r ≠ 34 ∧ r ≠ 92)
def textB (s : ByteArray) : Bool := decide (s.size ≤ 32 ∧ ∀ i (h : i < s.size), okText (s[i].toNat : Int) = true)
theorem okAt_high (i : Nat) (r : Int) (h : 128 ≤ r) : okAt i r = false := by
 simp only [okAt, smallB, digitB, Bool.or_eq_false_iff, Bool.and_eq_false_iff, decide_eq_false_iff_not, beq_eq_false_iff_ne, Bool.not_eq_false', decide_eq_true_eq]
 omega
theorem okText_high (r : Int) (h : 128 ≤ r) : okText r = false := by
 simp only [okText, decide_eq_false_iff_not]
 omega
theorem rune_at (s : ByteArray) (pos : Nat) (h : pos < s.size) :
  (∃ c : Nat, c < 128 ∧ Utf8.decode s pos = (c, 1) ∧ s[pos].toNat = c) ∨ (128 ≤ (Utf8.decode s pos).1 ∧ (Utf8.decode s pos).1 ≤ 2147483647 ∧ 128 ≤ s[pos].toNat) := by
 by_cases ha : (s[pos]'h).toNat < 128
 ·exact Or.inl ⟨_, ha, decode_ascii s pos h ha, rfl⟩
 ·exact Or.inr ⟨(decode_high s pos h (by omega)).1, decode_le s pos, by omega⟩
theorem nameB_true {s : ByteArray} (h1 : 1 ≤ s.size) (h2 : s.size ≤ 16) (h : ∀ i (h : i < s.size), okAt i (s[i].toNat : Int) = true) : nameB s = true := decide_eq_true ⟨h1, h2, h⟩
theorem nameB_false {s : ByteArray} {i : Nat} (h : i < s.size) (e : okAt i (s[i].toNat : Int) = false) : nameB s = false := decide_eq_false fun ⟨_, _, g⟩ => by rw [g i h] at e; cases e
theorem nameB_size {s : ByteArray} (h : s.size < 1 ∨ 16 < s.size) : nameB s = false := decide_eq_false fun ⟨_, _, _⟩ => by omega
theorem textB_true {s : ByteArray} (h2 : s.size ≤ 32) (h : ∀ i (h : i < s.size), okText (s[i].toNat : Int) = true) : textB s = true := decide_eq_true ⟨h2, h⟩
theorem textB_false {s : ByteArray} {i : Nat} (h : i < s.size) (e : okText (s[i].toNat : Int) = false) : textB s = false := decide_eq_false fun ⟨_, g⟩ => by rw [g i h] at e; cases e
theorem textB_size {s : ByteArray} (h : 32 < s.size) : textB s = false := decide_eq_false fun ⟨_, _⟩ => by omega
theorem ret_bool {a b : Bool} (h : a = b) : Ending.returned (.bool a) = .returned (.bool b) := by rw [h]
theorem small_any (r : Int) (w : World) : Calls Tryz.prog 162 #[.int .i32 r] w fun e w' => e = .returned (.bool (smallB r)) ∧ w = w' := by
 by_cases h1 : 97 ≤ r
 ·by_cases h2 : r ≤ 122
  ·have HF : Hid (smallB r = true) := decide_eq_true ⟨h1, h2⟩
   go_enter Tryz.func162, Tryz.ntmps162
   go_wp2
   go_ret
   exact ⟨ret_bool HF.out.symm, rfl⟩
  ·have HF : Hid (smallB r = false) := decide_eq_false (by omega)
   go_enter Tryz.func162, Tryz.ntmps162
   go_wp2
   go_ret
   exact ⟨ret_bool HF.out.symm, rfl⟩
 ·have HF : Hid (smallB r = false) := decide_eq_false (by omega)
  have hd : decide (97 ≤ r) = false := by simpa using h1
  go_enter Tryz.func162, Tryz.ntmps162
  go_wp2
  go_ret
  exact ⟨ret_bool HF.out.symm, rfl⟩
theorem digit_any (r : Int) (w : World) : Calls Tryz.prog 163 #[.int .i32 r] w fun e w' => e = .returned (.bool (digitB r)) ∧ w = w' := by
 by_cases h1 : 48 ≤ r
 ·by_cases h2 : r ≤ 57
  ·have HF : Hid (digitB r = true) := decide_eq_true ⟨h1, h2⟩
   go_enter Tryz.func163, Tryz.ntmps163
   go_wp2
   go_ret
   exact ⟨ret_bool HF.out.symm, rfl⟩
  ·have HF : Hid (digitB r = false) := decide_eq_false (by omega)
   go_enter Tryz.func163, Tryz.ntmps163
   go_wp2
   go_ret
   exact ⟨ret_bool HF.out.symm, rfl⟩
 ·have HF : Hid (digitB r = false) := decide_eq_false (by omega)
  have hd : decide (48 ≤ r) = false := by simpa using h1
  go_enter Tryz.func163, Tryz.ntmps163
  go_wp2
  go_ret
  exact ⟨ret_bool HF.out.symm, rfl⟩
set_option maxRecDepth 100000 in
set_option maxHeartbeats 1000000 in
theorem name_any (s : ByteArray) (w : World) (hs : s.size ≤ maxLen) :
  Calls Tryz.prog 142 #[.string s] w fun e w' => e = .returned (.bool (nameB s)) ∧ Below w.heap.size w w' := by
 unfold maxLen at hs
 by_cases hz : s.size < 1
 ·have HF := Lib.hid (nameB_size (s := s) (Or.inl hz))
  go_enter Tryz.func142, Tryz.ntmps142
  go_wp2_with fail
  go_ret
  exact ⟨ret_bool HF.out.symm, Below.refl _ _⟩
 by_cases hz2 : 16 < s.size
 ·have HF := Lib.hid (nameB_size (s := s) (Or.inr hz2))
  go_enter Tryz.func142, Tryz.ntmps142
  go_wp2_with fail
  go_ret
  exact ⟨ret_bool HF.out.symm, Below.refl _ _⟩
 have hb1 : decide ((s.size : Int) < 1) = false := by simp; omega
 have hb2 : decide (16 < (s.size : Int)) = false := by simp; omega
 go_enter Tryz.func142, Tryz.ntmps142
 go_wp2_with fail
 go_loopw [2] (fun _ w' => ∃ (pos : Nat), w' = w.iter s pos ∧ pos ≤ s.size ∧ Hid (∀ i (h : i < s.size), i < pos → okAt i (s[i].toNat : Int) = true)) (fun _ w' => s.size - w'.iterPos w.heap.size)
 case atStart => exact ⟨0, rfl, Nat.zero_le _, fun i _ hi => by omega⟩
 case round =>
  obtain ⟨pos, rfl, hpos, hok⟩ := hrel
  have hbel : Below w.heap.size w (w.iter s (pos + (Utf8.decode s pos).2)) := (Below.refl _ w).alloc (Nat.le_refl _) _
  have hbel0 : Below w.heap.size w (w.iter s pos) := (Below.refl _ w).alloc (Nat.le_refl _) _
  by_cases hp : pos < s.size
  ·have hnx : ∀ ty, (Instr.next (.pointer (some ⟨w.heap.size, 0, none⟩)) true ty).run Tryz.prog (w.iter s pos) = _ := fun ty => run_next_any w s pos ty hp
   have hru := rune_at s pos hp
   have HOK : Hid ((okAt pos ((Utf8.decode s pos).1 : Int) = true → okAt pos (s[pos].toNat : Int) = true ∧ (Utf8.decode s pos).2 = 1) ∧ (okAt pos ((Utf8.decode s pos).1 : Int) = false → okAt pos (s[pos].toNat : Int) = false)) := by
    show _ ∧ _
    rcases hru with ⟨c, hc, he, hcc⟩ | ⟨h1, h2, h3⟩
    ·rw [he, hcc]; exact ⟨fun h => ⟨h, rfl⟩, fun h => h⟩
    ·rw [okAt_high _ _ (by omega : (128 : Int) ≤ ((Utf8.decode s pos).1 : Int)), okAt_high _ _ (by omega : (128 : Int) ≤ (s[pos].toNat : Int))]; exact ⟨(fun h => by cases h), fun h => h⟩
   clear hru
   generalize hd : Utf8.decode s pos = d at *
   obtain ⟨r, wd⟩ := d
   clear hd
   dsimp only at hnx HOK hbel
   cases h1 : smallB (r : Int) with
   | true =>
    have HK : Hid (okAt pos (r : Int) = true) := by show _ = _; simp [okAt, h1]
    go_wp2_with (first | (go_at_call 162; refine (small_any _ _).mono ?_; rintro e w' ⟨rfl, rfl⟩) | (go_at_call 163; refine (digit_any _ _).mono ?_; rintro e w' ⟨rfl, rfl⟩))
    go_roundw
    case rel =>
     obtain ⟨g1, g2⟩ := HOK.out.1 HK.out
     refine ⟨pos + wd, rfl, by omega, fun i hi hi2 => ?_⟩
     by_cases e : i = pos
     ·subst e; exact g1
     ·exact hok.out i hi (by omega)
    case measure =>
     obtain ⟨g1, g2⟩ := HOK.out.1 HK.out
     simp
     omega
   | false =>
   by_cases h2 : pos = 0
   ·have HK : Hid (okAt pos (r : Int) = false) := by show _ = _; simp [okAt, h1, h2]
    have h2' : ((pos : Int) == 0) = true := by simp [h2]
    clear h2
    go_wp2_with (first | (go_at_call 162; refine (small_any _ _).mono ?_; rintro e w' ⟨rfl, rfl⟩) | (go_at_call 163; refine (digit_any _ _).mono ?_; rintro e w' ⟨rfl, rfl⟩))
    go_ret
    exact ⟨ret_bool (nameB_false hp (HOK.out.2 HK.out)).symm, hbel⟩
   have h2' : ((pos : Int) == 0) = false := by simp [h2]
   cases h3 : digitB (r : Int) with
   | true =>
    have HK : Hid (okAt pos (r : Int) = true) := by show _ = _; simp [okAt, h1, h2, h3]
    clear h2
    go_wp2_with (first | (go_at_call 162; refine (small_any _ _).mono ?_; rintro e w' ⟨rfl, rfl⟩) | (go_at_call 163; refine (digit_any _ _).mono ?_; rintro e w' ⟨rfl, rfl⟩))
    go_roundw
    case rel =>
     obtain ⟨g1, g2⟩ := HOK.out.1 HK.out
     refine ⟨pos + wd, rfl, by omega, fun i hi hi2 => ?_⟩
     by_cases e : i = pos
     ·subst e; exact g1
     ·exact hok.out i hi (by omega)
    case measure =>
     obtain ⟨g1, g2⟩ := HOK.out.1 HK.out
     simp
     omega
   | false =>
   by_cases h4 : (r : Int) = 95
   ·have HK : Hid (okAt pos (r : Int) = true) := by show _ = _; simp [okAt, h2, h4]
    have h4' : ((r : Int) != 95) = false := by simp [h4]
    clear h2 h4
    go_wp2_with (first | (go_at_call 162; refine (small_any _ _).mono ?_; rintro e w' ⟨rfl, rfl⟩) | (go_at_call 163; refine (digit_any _ _).mono ?_; rintro e w' ⟨rfl, rfl⟩))
    go_roundw
    case rel =>
     obtain ⟨g1, g2⟩ := HOK.out.1 HK.out
     refine ⟨pos + wd, rfl, by omega, fun i hi hi2 => ?_⟩
     by_cases e : i = pos
     ·subst e; exact g1
     ·exact hok.out i hi (by omega)
    case measure =>
     obtain ⟨g1, g2⟩ := HOK.out.1 HK.out
     simp
     omega
   ·have HK : Hid (okAt pos (r : Int) = false) := by show _ = _; simp [okAt, h1, h3, h4]
    have h4' : ((r : Int) != 95) = true := by simp [h4]
    clear h2 h4
    go_wp2_with (first | (go_at_call 162; refine (small_any _ _).mono ?_; rintro e w' ⟨rfl, rfl⟩) | (go_at_call 163; refine (digit_any _ _).mono ?_; rintro e w' ⟨rfl, rfl⟩))
    go_ret
    exact ⟨ret_bool (nameB_false hp (HOK.out.2 HK.out)).symm, hbel⟩
  ·have hnx : ∀ ty, (Instr.next (.pointer (some ⟨w.heap.size, 0, none⟩)) true ty).run Tryz.prog (w.iter s pos) = _ := fun ty => run_next_end w s pos ty hp
   have HF := Lib.hid (nameB_true (s := s) (by omega) (by omega) (fun i hi => hok.out i hi (by omega)))
   go_wp2_with fail
   go_ret
   exact ⟨ret_bool HF.out.symm, hbel0⟩
set_option maxRecDepth 100000 in
set_option maxHeartbeats 1000000 in
theorem rightText_any (s : ByteArray) (w : World) (hs : s.size ≤ maxLen) :
  Calls Tryz.prog 174 #[.string s] w fun e w' => e = .returned (.bool (textB s)) ∧ Below w.heap.size w w' := by
 unfold maxLen at hs
 by_cases hz2 : 32 < s.size
 ·have HF := Lib.hid (textB_size (s := s) hz2)
  go_enter Tryz.func174, Tryz.ntmps174
  go_wp2_with fail
  go_ret
  exact ⟨ret_bool HF.out.symm, Below.refl _ _⟩
 have hb2 : decide (32 < (s.size : Int)) = false := by simp; omega
 go_enter Tryz.func174, Tryz.ntmps174
 go_wp2_with fail
 go_loopw [2] (fun _ w' => ∃ (pos : Nat), w' = w.iter s pos ∧ pos ≤ s.size ∧ Hid (∀ i (h : i < s.size), i < pos → okText (s[i].toNat : Int) = true)) (fun _ w' => s.size - w'.iterPos w.heap.size)
 case atStart => exact ⟨0, rfl, Nat.zero_le _, fun i _ hi => by omega⟩
 case round =>
  obtain ⟨pos, rfl, hpos, hok⟩ := hrel
  have hbel : Below w.heap.size w (w.iter s (pos + (Utf8.decode s pos).2)) := (Below.refl _ w).alloc (Nat.le_refl _) _
  have hbel0 : Below w.heap.size w (w.iter s pos) := (Below.refl _ w).alloc (Nat.le_refl _) _
  by_cases hp : pos < s.size
  ·have hnx : ∀ ty, (Instr.next (.pointer (some ⟨w.heap.size, 0, none⟩)) true ty).run Tryz.prog (w.iter s pos) = _ := fun ty => run_next_any w s pos ty hp
   have hru := rune_at s pos hp
   have HOK : Hid ((okText ((Utf8.decode s pos).1 : Int) = true → okText (s[pos].toNat : Int) = true ∧ (Utf8.decode s pos).2 = 1) ∧ (okText ((Utf8.decode s pos).1 : Int) = false → okText (s[pos].toNat : Int) = false)) := by
    show _ ∧ _
    rcases hru with ⟨c, hc, he, hcc⟩ | ⟨h1, h2, h3⟩
    ·rw [he, hcc]; exact ⟨fun h => ⟨h, rfl⟩, fun h => h⟩
    ·rw [okText_high _ (by omega : (128 : Int) ≤ ((Utf8.decode s pos).1 : Int)), okText_high _ (by omega : (128 : Int) ≤ (s[pos].toNat : Int))]; exact ⟨(fun h => by cases h), fun h => h⟩
   clear hru
   generalize hd : Utf8.decode s pos = d at *
   obtain ⟨r, wd⟩ := d
   clear hd
   dsimp only at hnx HOK hbel
   by_cases h1 : (r : Int) < 32
   ·have HK : Hid (okText (r : Int) = false) := decide_eq_false (by omega)
    have h1' : decide ((r : Int) < 32) = true := by simpa using h1
    go_wp2_with fail
    go_ret
    exact ⟨ret_bool (textB_false hp (HOK.out.2 HK.out)).symm, hbel⟩
   have h1' : decide ((r : Int) < 32) = false := by simpa using h1
   by_cases h2 : 126 < (r : Int)
   ·have HK : Hid (okText (r : Int) = false) := decide_eq_false (by omega)
    have h2' : decide (126 < (r : Int)) = true := by simpa using h2
    go_wp2_with fail
    go_ret
    exact ⟨ret_bool (textB_false hp (HOK.out.2 HK.out)).symm, hbel⟩
   have h2' : decide (126 < (r : Int)) = false := by simpa using h2
   by_cases h3 : (r : Int) = 34
   ·have HK : Hid (okText (r : Int) = false) := decide_eq_false (by omega)
    have h3' : ((r : Int) == 34) = true := by simp [h3]
    clear h3
    go_wp2_with fail
    go_ret
    exact ⟨ret_bool (textB_false hp (HOK.out.2 HK.out)).symm, hbel⟩
   have h3' : ((r : Int) == 34) = false := by simp [h3]
   by_cases h4 : (r : Int) = 92
   ·have HK : Hid (okText (r : Int) = false) := decide_eq_false (by omega)
    have h4' : ((r : Int) == 92) = true := by simp [h4]
    clear h3 h4
    go_wp2_with fail
    go_ret
    exact ⟨ret_bool (textB_false hp (HOK.out.2 HK.out)).symm, hbel⟩
   ·have HK : Hid (okText (r : Int) = true) := decide_eq_true (by omega)
    have h4' : ((r : Int) == 92) = false := by simp [h4]
    clear h3 h4
    go_wp2_with fail
    go_roundw
    case rel =>
     obtain ⟨g1, g2⟩ := HOK.out.1 HK.out
     refine ⟨pos + wd, rfl, by omega, fun i hi hi2 => ?_⟩
     by_cases e : i = pos
     ·subst e; exact g1
     ·exact hok.out i hi (by omega)
    case measure =>
     obtain ⟨g1, g2⟩ := HOK.out.1 HK.out
     simp
     omega
  ·have hnx : ∀ ty, (Instr.next (.pointer (some ⟨w.heap.size, 0, none⟩)) true ty).run Tryz.prog (w.iter s pos) = _ := fun ty => run_next_end w s pos ty hp
   have HF := Lib.hid (textB_true (s := s) (by omega) (fun i hi => hok.out i hi (by omega)))
   go_wp2_with fail
   go_ret
   exact ⟨ret_bool HF.out.symm, hbel0⟩
end Go.Proofs.YtjohcnhiblfbnaaGreatDoor
namespace Go.Proofs.YtjohcnhiblfbnaaGreatDoor
open Go.RowKit
def greatB (r : Int) : Bool := decide (65 ≤ r ∧ r ≤ 90)
def okVar (i : Nat) (r : Int) : Bool := greatB r || (!(decide (i = 0)) && (smallB r || (digitB r || (r == 95))))
def varB (s : ByteArray) : Bool := decide (1 ≤ s.size ∧ s.size ≤ 16 ∧ ∀ i (h : i < s.size), okVar i (s[i].toNat : Int) = true)
theorem okVar_high (i : Nat) (r : Int) (h : 128 ≤ r) : okVar i r = false := by
 simp only [okVar, greatB, smallB, digitB, Bool.or_eq_false_iff, Bool.and_eq_false_iff, decide_eq_false_iff_not, beq_eq_false_iff_ne, Bool.not_eq_false', decide_eq_true_eq]
 omega
theorem varB_true {s : ByteArray} (h1 : 1 ≤ s.size) (h2 : s.size ≤ 16) (h : ∀ i (h : i < s.size), okVar i (s[i].toNat : Int) = true) : varB s = true := decide_eq_true ⟨h1, h2, h⟩
theorem varB_false {s : ByteArray} {i : Nat} (h : i < s.size) (e : okVar i (s[i].toNat : Int) = false) : varB s = false := decide_eq_false fun ⟨_, _, g⟩ => by rw [g i h] at e; cases e
theorem varB_size {s : ByteArray} (h : s.size < 1 ∨ 16 < s.size) : varB s = false := decide_eq_false fun ⟨_, _, _⟩ => by omega
theorem pgreat_any (r : Int) (w : World) : Calls Tryz.prog 166 #[.int .i32 r] w fun e w' => e = .returned (.bool (greatB r)) ∧ w = w' := by
 by_cases h1 : 65 ≤ r
 ·by_cases h2 : r ≤ 90
  ·have HF : Hid (greatB r = true) := decide_eq_true ⟨h1, h2⟩
   go_enter Tryz.func166, Tryz.ntmps166
   go_wp2
   go_ret
   exact ⟨ret_bool HF.out.symm, rfl⟩
  ·have HF : Hid (greatB r = false) := decide_eq_false (by omega)
   go_enter Tryz.func166, Tryz.ntmps166
   go_wp2
   go_ret
   exact ⟨ret_bool HF.out.symm, rfl⟩
 ·have HF : Hid (greatB r = false) := decide_eq_false (by omega)
  have hd : decide (65 ≤ r) = false := by simpa using h1
  go_enter Tryz.func166, Tryz.ntmps166
  go_wp2
  go_ret
  exact ⟨ret_bool HF.out.symm, rfl⟩
theorem psmall_any (r : Int) (w : World) : Calls Tryz.prog 167 #[.int .i32 r] w fun e w' => e = .returned (.bool (smallB r)) ∧ w = w' := by
 by_cases h1 : 97 ≤ r
 ·by_cases h2 : r ≤ 122
  ·have HF : Hid (smallB r = true) := decide_eq_true ⟨h1, h2⟩
   go_enter Tryz.func167, Tryz.ntmps167
   go_wp2
   go_ret
   exact ⟨ret_bool HF.out.symm, rfl⟩
  ·have HF : Hid (smallB r = false) := decide_eq_false (by omega)
   go_enter Tryz.func167, Tryz.ntmps167
   go_wp2
   go_ret
   exact ⟨ret_bool HF.out.symm, rfl⟩
 ·have HF : Hid (smallB r = false) := decide_eq_false (by omega)
  have hd : decide (97 ≤ r) = false := by simpa using h1
  go_enter Tryz.func167, Tryz.ntmps167
  go_wp2
  go_ret
  exact ⟨ret_bool HF.out.symm, rfl⟩
theorem pdigit_any (r : Int) (w : World) : Calls Tryz.prog 168 #[.int .i32 r] w fun e w' => e = .returned (.bool (digitB r)) ∧ w = w' := by
 by_cases h1 : 48 ≤ r
 ·by_cases h2 : r ≤ 57
  ·have HF : Hid (digitB r = true) := decide_eq_true ⟨h1, h2⟩
   go_enter Tryz.func168, Tryz.ntmps168
   go_wp2
   go_ret
   exact ⟨ret_bool HF.out.symm, rfl⟩
  ·have HF : Hid (digitB r = false) := decide_eq_false (by omega)
   go_enter Tryz.func168, Tryz.ntmps168
   go_wp2
   go_ret
   exact ⟨ret_bool HF.out.symm, rfl⟩
 ·have HF : Hid (digitB r = false) := decide_eq_false (by omega)
  have hd : decide (48 ≤ r) = false := by simpa using h1
  go_enter Tryz.func168, Tryz.ntmps168
  go_wp2
  go_ret
  exact ⟨ret_bool HF.out.symm, rfl⟩
set_option maxRecDepth 100000 in
set_option maxHeartbeats 1000000 in
theorem variable_any (s : ByteArray) (w : World) (hs : s.size ≤ maxLen) :
  Calls Tryz.prog 148 #[.string s] w fun e w' => e = .returned (.bool (varB s)) ∧ Below w.heap.size w w' := by
 unfold maxLen at hs
 by_cases hz : s.size < 1
 ·have HF := Lib.hid (varB_size (s := s) (Or.inl hz))
  go_enter Tryz.func148, Tryz.ntmps148
  go_wp2_with fail
  go_ret
  exact ⟨ret_bool HF.out.symm, Below.refl _ _⟩
 by_cases hz2 : 16 < s.size
 ·have HF := Lib.hid (varB_size (s := s) (Or.inr hz2))
  go_enter Tryz.func148, Tryz.ntmps148
  go_wp2_with fail
  go_ret
  exact ⟨ret_bool HF.out.symm, Below.refl _ _⟩
 have hb1 : decide ((s.size : Int) < 1) = false := by simp; omega
 have hb2 : decide (16 < (s.size : Int)) = false := by simp; omega
 go_enter Tryz.func148, Tryz.ntmps148
 go_wp2_with fail
 go_loopw [2] (fun _ w' => ∃ (pos : Nat), w' = w.iter s pos ∧ pos ≤ s.size ∧ Hid (∀ i (h : i < s.size), i < pos → okVar i (s[i].toNat : Int) = true)) (fun _ w' => s.size - w'.iterPos w.heap.size)
 case atStart => exact ⟨0, rfl, Nat.zero_le _, fun i _ hi => by omega⟩
 case round =>
  obtain ⟨pos, rfl, hpos, hok⟩ := hrel
  have hbel : Below w.heap.size w (w.iter s (pos + (Utf8.decode s pos).2)) := (Below.refl _ w).alloc (Nat.le_refl _) _
  have hbel0 : Below w.heap.size w (w.iter s pos) := (Below.refl _ w).alloc (Nat.le_refl _) _
  by_cases hp : pos < s.size
  ·have hnx : ∀ ty, (Instr.next (.pointer (some ⟨w.heap.size, 0, none⟩)) true ty).run Tryz.prog (w.iter s pos) = _ := fun ty => run_next_any w s pos ty hp
   have hru := rune_at s pos hp
   have HOK : Hid ((okVar pos ((Utf8.decode s pos).1 : Int) = true → okVar pos (s[pos].toNat : Int) = true ∧ (Utf8.decode s pos).2 = 1) ∧ (okVar pos ((Utf8.decode s pos).1 : Int) = false → okVar pos (s[pos].toNat : Int) = false)) := by
    show _ ∧ _
    rcases hru with ⟨c, hc, he, hcc⟩ | ⟨h1, h2, h3⟩
    ·rw [he, hcc]; exact ⟨fun h => ⟨h, rfl⟩, fun h => h⟩
    ·rw [okVar_high _ _ (by omega : (128 : Int) ≤ ((Utf8.decode s pos).1 : Int)), okVar_high _ _ (by omega : (128 : Int) ≤ (s[pos].toNat : Int))]; exact ⟨(fun h => by cases h), fun h => h⟩
   clear hru
   generalize hd : Utf8.decode s pos = d at *
   obtain ⟨r, wd⟩ := d
   clear hd
   dsimp only at hnx HOK hbel
   cases h0 : greatB (r : Int) with
   | true =>
    have HK : Hid (okVar pos (r : Int) = true) := by show _ = _; simp [okVar, h0]
    go_wp2_with (first | (go_at_call 166; refine (pgreat_any _ _).mono ?_; rintro e w' ⟨rfl, rfl⟩) | (go_at_call 167; refine (psmall_any _ _).mono ?_; rintro e w' ⟨rfl, rfl⟩) | (go_at_call 168; refine (pdigit_any _ _).mono ?_; rintro e w' ⟨rfl, rfl⟩))
    go_roundw
    case rel =>
     obtain ⟨g1, g2⟩ := HOK.out.1 HK.out
     refine ⟨pos + wd, rfl, by omega, fun i hi hi2 => ?_⟩
     by_cases e : i = pos
     ·subst e; exact g1
     ·exact hok.out i hi (by omega)
    case measure =>
     obtain ⟨g1, g2⟩ := HOK.out.1 HK.out
     simp
     omega
   | false =>
   by_cases h2 : pos = 0
   ·have HK : Hid (okVar pos (r : Int) = false) := by show _ = _; simp [okVar, h0, h2]
    have h2' : ((pos : Int) == 0) = true := by simp [h2]
    clear h2
    go_wp2_with (first | (go_at_call 166; refine (pgreat_any _ _).mono ?_; rintro e w' ⟨rfl, rfl⟩) | (go_at_call 167; refine (psmall_any _ _).mono ?_; rintro e w' ⟨rfl, rfl⟩) | (go_at_call 168; refine (pdigit_any _ _).mono ?_; rintro e w' ⟨rfl, rfl⟩))
    go_ret
    exact ⟨ret_bool (varB_false hp (HOK.out.2 HK.out)).symm, hbel⟩
   have h2' : ((pos : Int) == 0) = false := by simp [h2]
   cases h1 : smallB (r : Int) with
   | true =>
    have HK : Hid (okVar pos (r : Int) = true) := by show _ = _; simp [okVar, h1, h2]
    clear h2
    go_wp2_with (first | (go_at_call 166; refine (pgreat_any _ _).mono ?_; rintro e w' ⟨rfl, rfl⟩) | (go_at_call 167; refine (psmall_any _ _).mono ?_; rintro e w' ⟨rfl, rfl⟩) | (go_at_call 168; refine (pdigit_any _ _).mono ?_; rintro e w' ⟨rfl, rfl⟩))
    go_roundw
    case rel =>
     obtain ⟨g1, g2⟩ := HOK.out.1 HK.out
     refine ⟨pos + wd, rfl, by omega, fun i hi hi2 => ?_⟩
     by_cases e : i = pos
     ·subst e; exact g1
     ·exact hok.out i hi (by omega)
    case measure =>
     obtain ⟨g1, g2⟩ := HOK.out.1 HK.out
     simp
     omega
   | false =>
   cases h3 : digitB (r : Int) with
   | true =>
    have HK : Hid (okVar pos (r : Int) = true) := by show _ = _; simp [okVar, h2, h3]
    clear h2
    go_wp2_with (first | (go_at_call 166; refine (pgreat_any _ _).mono ?_; rintro e w' ⟨rfl, rfl⟩) | (go_at_call 167; refine (psmall_any _ _).mono ?_; rintro e w' ⟨rfl, rfl⟩) | (go_at_call 168; refine (pdigit_any _ _).mono ?_; rintro e w' ⟨rfl, rfl⟩))
    go_roundw
    case rel =>
     obtain ⟨g1, g2⟩ := HOK.out.1 HK.out
     refine ⟨pos + wd, rfl, by omega, fun i hi hi2 => ?_⟩
     by_cases e : i = pos
     ·subst e; exact g1
     ·exact hok.out i hi (by omega)
    case measure =>
     obtain ⟨g1, g2⟩ := HOK.out.1 HK.out
     simp
     omega
   | false =>
   by_cases h4 : (r : Int) = 95
   ·have HK : Hid (okVar pos (r : Int) = true) := by show _ = _; simp [okVar, h2, h4]
    have h4' : ((r : Int) != 95) = false := by simp [h4]
    clear h2 h4
    go_wp2_with (first | (go_at_call 166; refine (pgreat_any _ _).mono ?_; rintro e w' ⟨rfl, rfl⟩) | (go_at_call 167; refine (psmall_any _ _).mono ?_; rintro e w' ⟨rfl, rfl⟩) | (go_at_call 168; refine (pdigit_any _ _).mono ?_; rintro e w' ⟨rfl, rfl⟩))
    go_roundw
    case rel =>
     obtain ⟨g1, g2⟩ := HOK.out.1 HK.out
     refine ⟨pos + wd, rfl, by omega, fun i hi hi2 => ?_⟩
     by_cases e : i = pos
     ·subst e; exact g1
     ·exact hok.out i hi (by omega)
    case measure =>
     obtain ⟨g1, g2⟩ := HOK.out.1 HK.out
     simp
     omega
   ·have HK : Hid (okVar pos (r : Int) = false) := by show _ = _; simp [okVar, h0, h1, h3, h4]
    have h4' : ((r : Int) != 95) = true := by simp [h4]
    clear h2 h4
    go_wp2_with (first | (go_at_call 166; refine (pgreat_any _ _).mono ?_; rintro e w' ⟨rfl, rfl⟩) | (go_at_call 167; refine (psmall_any _ _).mono ?_; rintro e w' ⟨rfl, rfl⟩) | (go_at_call 168; refine (pdigit_any _ _).mono ?_; rintro e w' ⟨rfl, rfl⟩))
    go_ret
    exact ⟨ret_bool (varB_false hp (HOK.out.2 HK.out)).symm, hbel⟩
  ·have hnx : ∀ ty, (Instr.next (.pointer (some ⟨w.heap.size, 0, none⟩)) true ty).run Tryz.prog (w.iter s pos) = _ := fun ty => run_next_end w s pos ty hp
   have HF := Lib.hid (varB_true (s := s) (by omega) (by omega) (fun i hi => hok.out i hi (by omega)))
   go_wp2_with fail
   go_ret
   exact ⟨ret_bool HF.out.symm, hbel0⟩
end Go.Proofs.YtjohcnhiblfbnaaGreatDoor
