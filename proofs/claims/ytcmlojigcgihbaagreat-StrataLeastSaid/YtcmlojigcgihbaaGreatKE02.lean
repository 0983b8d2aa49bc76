/-
  Variable, Right, Heap, Boxed
-/
import Derived.Test.YtcmlojigcgihbaaGreatKE01
import Derived.WalkSpells
import Derived.WalkLawsBesides
namespace Go.Proofs.YtcmlojigcgihbaaGreat
open Go.RowKit
def greatB (r : Int) : Bool := decide (65 ≤ r ∧ r ≤ 90)
def okVar (i : Nat) (r : Int) : Bool := greatB r || (!(decide (i = 0)) && (smallB r || (digitB r || (r == 95))))
def varB (s : ByteArray) : Bool := decide (1 ≤ s.size ∧ s.size ≤ 16 ∧ ∀ i (h : i < s.size), okVar i (s[i].toNat : Int) = true)
theorem okVar_high (i : Nat) (r : Int) (h : 128 ≤ r) : okVar i r = false := by
 simp only [okVar, greatB, smallB, digitB, Bool.or_eq_false_iff, Bool.and_eq_false_iff, decide_eq_false_iff_not, beq_eq_false_iff_ne, Bool.not_eq_false', decide_eq_true_eq]
 omega
theorem varB_true {s : ByteArray} (h1 : 1 ≤ s.size) (h2 : s.size ≤ 16) (h : ∀ i (h : i < s.size), okVar i (s[i].toNat : Int) = true) : varB s = true := decide_eq_true ⟨h1, h2, h⟩
theorem varB_false {s : ByteArray} {i : Nat} (h : i < s.size) (e : okVar i (s[i].toNat : Int) = false) : varB s = false := decide_eq_false fun ⟨_, _, g⟩ => by rw [g i h] at e; cases e
theorem varB_size {s : ByteArray} (h : s.size < 1 ∨ 16 < s.size) : varB s = false := decide_eq_false fun ⟨_, _, _⟩ => by omega
theorem pgreat_any (r : Int) (w : World) : Calls Tryz.prog 79 #[.int .i32 r] w fun e w' => e = .returned (.bool (greatB r)) ∧ w = w' := by
 by_cases h1 : 65 ≤ r
 ·by_cases h2 : r ≤ 90
  ·have HF : Hid (greatB r = true) := decide_eq_true ⟨h1, h2⟩
   go_enter Tryz.func79, Tryz.ntmps79
   go_wp2
   go_ret
   exact ⟨ret_bool HF.out.symm, rfl⟩
  ·have HF : Hid (greatB r = false) := decide_eq_false (by omega)
   go_enter Tryz.func79, Tryz.ntmps79
   go_wp2
   go_ret
   exact ⟨ret_bool HF.out.symm, rfl⟩
 ·have HF : Hid (greatB r = false) := decide_eq_false (by omega)
  have hd : decide (65 ≤ r) = false := by simpa using h1
  go_enter Tryz.func79, Tryz.ntmps79
  go_wp2
  go_ret
  exact ⟨ret_bool HF.out.symm, rfl⟩
theorem psmall_any (r : Int) (w : World) : Calls Tryz.prog 80 #[.int .i32 r] w fun e w' => e = .returned (.bool (smallB r)) ∧ w = w' := by
 by_cases h1 : 97 ≤ r
 ·by_cases h2 : r ≤ 122
  ·have HF : Hid (smallB r = true) := decide_eq_true ⟨h1, h2⟩
   go_enter Tryz.func80, Tryz.ntmps80
   go_wp2
   go_ret
   exact ⟨ret_bool HF.out.symm, rfl⟩
  ·have HF : Hid (smallB r = false) := decide_eq_false (by omega)
   go_enter Tryz.func80, Tryz.ntmps80
   go_wp2
   go_ret
   exact ⟨ret_bool HF.out.symm, rfl⟩
 ·have HF : Hid (smallB r = false) := decide_eq_false (by omega)
  have hd : decide (97 ≤ r) = false := by simpa using h1
  go_enter Tryz.func80, Tryz.ntmps80
  go_wp2
  go_ret
  exact ⟨ret_bool HF.out.symm, rfl⟩
theorem pdigit_any (r : Int) (w : World) : Calls Tryz.prog 81 #[.int .i32 r] w fun e w' => e = .returned (.bool (digitB r)) ∧ w = w' := by
 by_cases h1 : 48 ≤ r
 ·by_cases h2 : r ≤ 57
  ·have HF : Hid (digitB r = true) := decide_eq_true ⟨h1, h2⟩
   go_enter Tryz.func81, Tryz.ntmps81
   go_wp2
   go_ret
   exact ⟨ret_bool HF.out.symm, rfl⟩
  ·have HF : Hid (digitB r = false) := decide_eq_false (by omega)
   go_enter Tryz.func81, Tryz.ntmps81
   go_wp2
   go_ret
   exact ⟨ret_bool HF.out.symm, rfl⟩
 ·have HF : Hid (digitB r = false) := decide_eq_false (by omega)
  have hd : decide (48 ≤ r) = false := by simpa using h1
  go_enter Tryz.func81, Tryz.ntmps81
  go_wp2
  go_ret
  exact ⟨ret_bool HF.out.symm, rfl⟩
set_option maxRecDepth 100000 in
set_option maxHeartbeats 1000000 in
theorem variable_any (s : ByteArray) (w : World) (hs : s.size ≤ maxLen) :
  Calls Tryz.prog 69 #[.string s] w fun e w' => e = .returned (.bool (varB s)) ∧ Below w.heap.size w w' := by
 unfold maxLen at hs
 by_cases hz : s.size < 1
 ·have HF := Lib.hid (varB_size (s := s) (Or.inl hz))
  go_enter Tryz.func69, Tryz.ntmps69
  go_wp2_with fail
  go_ret
  exact ⟨ret_bool HF.out.symm, Below.refl _ _⟩
 by_cases hz2 : 16 < s.size
 ·have HF := Lib.hid (varB_size (s := s) (Or.inr hz2))
  go_enter Tryz.func69, Tryz.ntmps69
  go_wp2_with fail
  go_ret
  exact ⟨ret_bool HF.out.symm, Below.refl _ _⟩
 have hb1 : decide ((s.size : Int) < 1) = false := by simp; omega
 have hb2 : decide (16 < (s.size : Int)) = false := by simp; omega
 go_enter Tryz.func69, Tryz.ntmps69
 go_wp2_with fail
 go_loopw [2] (fun _ w' => ∃ (pos : Nat), w' = w.iter s pos ∧ pos ≤ s.size ∧ Hid (∀ i (h : i < s.size), i < pos → okVar i (s[i].toNat : Int) = true)) (fun _ w' => s.size - w'.iterPos w.heap.size)
 case atStart => exact ⟨0, rfl, Nat.zero_le _, fun i _ hi => by omega⟩
 case round =>
  obtain ⟨pos, rfl, hpos, hok⟩ := hrel;have hbel : Below w.heap.size w (w.iter s (pos + (Utf8.decode s pos).2)) := (Below.refl _ w).alloc (Nat.le_refl _) _;have hbel0 : Below w.heap.size w (w.iter s pos) := (Below.refl _ w).alloc (Nat.le_refl _) _
  by_cases hp : pos < s.size
  ·have hnx : ∀ ty, (Instr.next (.pointer (some ⟨w.heap.size, 0, none⟩)) true ty).run Tryz.prog (w.iter s pos) = _ := fun ty => run_next_any w s pos ty hp
   have hru := rune_at s pos hp
   have HOK : Hid ((okVar pos ((Utf8.decode s pos).1 : Int) = true → okVar pos (s[pos].toNat : Int) = true ∧ (Utf8.decode s pos).2 = 1) ∧ (okVar pos ((Utf8.decode s pos).1 : Int) = false → okVar pos (s[pos].toNat : Int) = false)) := by
    show _ ∧ _
    rcases hru with ⟨c, hc, he, hcc⟩ | ⟨h1, h2, h3⟩
    ·rw [he, hcc]; exact ⟨fun h => ⟨h, rfl⟩, fun h => h⟩
    ·rw [okVar_high _ _ (by omega : (128 : Int) ≤ ((Utf8.decode s pos).1 : Int)), okVar_high _ _ (by omega : (128 : Int) ≤ (s[pos].toNat : Int))]; exact ⟨(fun h => by cases h), fun h => h⟩
   clear hru;generalize hd : Utf8.decode s pos = d at *;obtain ⟨r, wd⟩ := d;clear hd
   dsimp only at hnx HOK hbel
   cases h0 : greatB (r : Int) with
   | true =>
    have HK : Hid (okVar pos (r : Int) = true) := by show _ = _; simp [okVar, h0]
    go_wp2_with (first | (go_at_call 79; refine (pgreat_any _ _).mono ?_; rintro e w' ⟨rfl, rfl⟩) | (go_at_call 80; refine (psmall_any _ _).mono ?_; rintro e w' ⟨rfl, rfl⟩) | (go_at_call 81; refine (pdigit_any _ _).mono ?_; rintro e w' ⟨rfl, rfl⟩))
    go_roundw
    case rel =>
     obtain ⟨g1, g2⟩ := HOK.out.1 HK.out;refine ⟨pos + wd, rfl, by omega, fun i hi hi2 => ?_⟩
     by_cases e : i = pos
     ·subst e; exact g1
     ·exact hok.out i hi (by omega)
    case measure =>
     obtain ⟨g1, g2⟩ := HOK.out.1 HK.out;simp
     omega
   | false =>
   by_cases h2 : pos = 0
   ·have HK : Hid (okVar pos (r : Int) = false) := by show _ = _; simp [okVar, h0, h2]
    have h2' : ((pos : Int) == 0) = true := by simp [h2]
    clear h2;go_wp2_with (first | (go_at_call 79; refine (pgreat_any _ _).mono ?_; rintro e w' ⟨rfl, rfl⟩) | (go_at_call 80; refine (psmall_any _ _).mono ?_; rintro e w' ⟨rfl, rfl⟩) | (go_at_call 81; refine (pdigit_any _ _).mono ?_; rintro e w' ⟨rfl, rfl⟩))
    go_ret
    exact ⟨ret_bool (varB_false hp (HOK.out.2 HK.out)).symm, hbel⟩
   have h2' : ((pos : Int) == 0) = false := by simp [h2]
   cases h1 : smallB (r : Int) with
   | true =>
    have HK : Hid (okVar pos (r : Int) = true) := by show _ = _; simp [okVar, h1, h2]
    clear h2;go_wp2_with (first | (go_at_call 79; refine (pgreat_any _ _).mono ?_; rintro e w' ⟨rfl, rfl⟩) | (go_at_call 80; refine (psmall_any _ _).mono ?_; rintro e w' ⟨rfl, rfl⟩) | (go_at_call 81; refine (pdigit_any _ _).mono ?_; rintro e w' ⟨rfl, rfl⟩))
    go_roundw
    case rel =>
     obtain ⟨g1, g2⟩ := HOK.out.1 HK.out;refine ⟨pos + wd, rfl, by omega, fun i hi hi2 => ?_⟩
     by_cases e : i = pos
     ·subst e; exact g1
     ·exact hok.out i hi (by omega)
    case measure =>
     obtain ⟨g1, g2⟩ := HOK.out.1 HK.out;simp
     omega
   | false =>
   cases h3 : digitB (r : Int) with
   | true =>
    have HK : Hid (okVar pos (r : Int) = true) := by show _ = _; simp [okVar, h2, h3]
    clear h2;go_wp2_with (first | (go_at_call 79; refine (pgreat_any _ _).mono ?_; rintro e w' ⟨rfl, rfl⟩) | (go_at_call 80; refine (psmall_any _ _).mono ?_; rintro e w' ⟨rfl, rfl⟩) | (go_at_call 81; refine (pdigit_any _ _).mono ?_; rintro e w' ⟨rfl, rfl⟩))
    go_roundw
    case rel =>
     obtain ⟨g1, g2⟩ := HOK.out.1 HK.out;refine ⟨pos + wd, rfl, by omega, fun i hi hi2 => ?_⟩
     by_cases e : i = pos
     ·subst e; exact g1
     ·exact hok.out i hi (by omega)
    case measure =>
     obtain ⟨g1, g2⟩ := HOK.out.1 HK.out;simp
     omega
   | false =>
   by_cases h4 : (r : Int) = 95
   ·have HK : Hid (okVar pos (r : Int) = true) := by show _ = _; simp [okVar, h2, h4]
    have h4' : ((r : Int) != 95) = false := by simp [h4]
    clear h2 h4;go_wp2_with (first | (go_at_call 79; refine (pgreat_any _ _).mono ?_; rintro e w' ⟨rfl, rfl⟩) | (go_at_call 80; refine (psmall_any _ _).mono ?_; rintro e w' ⟨rfl, rfl⟩) | (go_at_call 81; refine (pdigit_any _ _).mono ?_; rintro e w' ⟨rfl, rfl⟩))
    go_roundw
    case rel =>
     obtain ⟨g1, g2⟩ := HOK.out.1 HK.out;refine ⟨pos + wd, rfl, by omega, fun i hi hi2 => ?_⟩
     by_cases e : i = pos
     ·subst e; exact g1
     ·exact hok.out i hi (by omega)
    case measure =>
     obtain ⟨g1, g2⟩ := HOK.out.1 HK.out;simp
     omega
   ·have HK : Hid (okVar pos (r : Int) = false) := by show _ = _; simp [okVar, h0, h1, h3, h4]
    have h4' : ((r : Int) != 95) = true := by simp [h4]
    clear h2 h4;go_wp2_with (first | (go_at_call 79; refine (pgreat_any _ _).mono ?_; rintro e w' ⟨rfl, rfl⟩) | (go_at_call 80; refine (psmall_any _ _).mono ?_; rintro e w' ⟨rfl, rfl⟩) | (go_at_call 81; refine (pdigit_any _ _).mono ?_; rintro e w' ⟨rfl, rfl⟩))
    go_ret
    exact ⟨ret_bool (varB_false hp (HOK.out.2 HK.out)).symm, hbel⟩
  ·have hnx : ∀ ty, (Instr.next (.pointer (some ⟨w.heap.size, 0, none⟩)) true ty).run Tryz.prog (w.iter s pos) = _ := fun ty => run_next_end w s pos ty hp
   have HF := Lib.hid (varB_true (s := s) (by omega) (by omega) (fun i hi => hok.out i hi (by omega)));go_wp2_with fail
   go_ret
   exact ⟨ret_bool HF.out.symm, hbel0⟩
end Go.Proofs.YtcmlojigcgihbaaGreat
namespace Go.Proofs.YtcmlojigcgihbaaGreat
open Go.RowKit
def baseB (k n : Int) (s : ByteArray) (l : List V) (b : Bool) : Bool :=
 if k = 1 then s.toList.isEmpty && l.isEmpty && decide (-2147483647 ≤ n) && decide (n ≤ 2147483647)
 else if k = 2 then (n == 0) && l.isEmpty && textB s
 else if k = 3 then (n == 0) && l.isEmpty && nameB s
 else if k = 4 then (n == 0) && s.toList.isEmpty && b
 else false
def rightV : Nat → V → Bool
 | 0, .mk k n s l => baseB k n s l false
 | d + 1, .mk k n s l => baseB k n s l (decide (l.length ≤ 16) && l.all (rightV d))
def rightL : Nat → List V → Bool
 | 0, _ => false
 | d + 1, l => decide (l.length ≤ 16) && l.all (rightV d)
theorem rightV_mk (d : Nat) (k n : Int) (s : ByteArray) (l : List V) : rightV d (.mk k n s l) = baseB k n s l (rightL d l) := by
 cases d <;> simp [rightV, rightL]
def RightAt (d : Nat) : Prop := ∀ (x : V) (B : Nat) (w : World) (c0 c1 c2 c3 : Value), B ≤ w.heap.size → RepV B w x c0 c1 c2 c3 →
 Calls Tryz.prog 64 #[.agg #[c0, c1, c2, c3], .int .i64 d] w fun e w' => e = .returned (.bool (rightV d x)) ∧ Below w.heap.size w w'
def RightListAt (d : Nat) : Prop := ∀ (l : List V) (B : Nat) (w : World) (a : Value), B ≤ w.heap.size → RepL B w l a →
 Calls Tryz.prog 77 #[a, .int .i64 d] w fun e w' => e = .returned (.bool (rightL d l)) ∧ Below w.heap.size w w'
theorem rightL_none {l : List V} (d : Nat) (h : 16 < l.length) : rightL d l = false := by
 cases d with
 | zero => rfl
 | succ d => simp only [rightL, Bool.and_eq_false_iff, decide_eq_false_iff_not]; omega
set_option maxRecDepth 100000 in
set_option maxHeartbeats 1000000 in
theorem rightList_of (d : Nat) (hd : d ≤ 100) (hR : ∀ d', d = d' + 1 → RightAt d') : RightListAt d := by
 intro l B w a hB ha;obtain ⟨aa, ab, ao, ac, rfl, hal, hac, haa, hab, hax⟩ := ha;have HAX := Lib.hid hax; clear hax
 have HAA := Lib.hid haa; clear haa
 match d, hd, hR with
 | 0, _, _ =>
  go_enter Tryz.func77, Tryz.ntmps77
  go_wp2_with fail
  go_ret
  exact ⟨rfl, Below.refl _ _⟩
 | d + 1, hd, hR =>
 have HR := Lib.hid (hR d rfl); clear hR
 rw [show (((d + 1 : Nat)) : Int) = (d : Int) + 1 from by omega];have hd1 : decide ((d : Int) + 1 < 1) = false := by simp; omega
 by_cases hz : 16 < l.length
 ·have HF := Lib.hid (rightL_none (d + 1) hz)
  have hz' : decide (16 < (l.length : Int)) = true := by simp; omega
  go_enter Tryz.func77, Tryz.ntmps77
  go_wp2_with fail
  go_ret
  exact ⟨ret_bool HF.out.symm, Below.refl _ _⟩
 have hz' : decide (16 < (l.length : Int)) = false := by simp; omega
 go_enter Tryz.func77, Tryz.ntmps77
 go_wp2_with fail
 go_loopw [16] (fun i wr => ∃ k : Nat, k ≤ l.length ∧ i = .int .i64 k ∧ Hid ((l.take k).all (rightV d) = true) ∧ Below w.heap.size w wr) (fun i _ => l.length - (intOf i).toNat)
 case atStart => exact ⟨0, Nat.zero_le _, rfl, by show _ = _; simp, Below.refl _ _⟩
 case round =>
  obtain ⟨k, hk1, rfl, hrec, hbel⟩ := hrel
  by_cases hl : k < l.length
  ·obtain ⟨x0, x1, x2, x3, g0, g1, g2, g3, gr⟩ := HAX.out k hl
   have hab' : ab < B := hab (by omega);obtain rfl := HAA.out (by omega);rw [← hbel.cell (by simp; omega)] at g0 g1 g2 g3;have hs := hbel.size;obtain ⟨fa, fc, rfl, rfl, rfl, rfl⟩ := gr.form;go_wp2_with fail
   have hb2 : Below w.heap.size w (wr.alloc (.cells #[.int .i64 l[k].kind, .int .i64 l[k].num, .string l[k].text, .slice fa l[k].list.length fc] 52)) := hbel.alloc hs _;refine (HR.out l[k] B _ _ _ _ _ (by simp; omega) (RepV.below (fun j hj => hb2.block j (by omega)) _ gr)).mono ?_;rintro e w3 ⟨rfl, hbel3⟩;have hbel4 : Below w.heap.size w w3 := hb2.trans (hbel3.mono (by simp; omega));have hts : l.take (k + 1) = l.take k ++ [l[k]] := by rw [List.take_succ_eq_append_getElem hl]
   have HTS := Lib.hid hts; clear hts
   clear hbel3 hb2 g0 g1 g2 g3
   cases hc : rightV d l[k] with
   | true =>
    have HCZ := Lib.hid hc; clear hc
    go_wp2_with fail
    go_roundw
    case rel => exact ⟨k + 1, by omega, by go_num, by show _ = _; rw [HTS.out, List.all_append, hrec.out]; simp [HCZ.out], hbel4⟩
    case measure => simp [intOf]; omega
   | false =>
    have HCZ := Lib.hid hc; clear hc
    go_wp2_with fail
    go_ret
    refine ⟨ret_bool ?_, hbel4⟩
    symm
    simp only [rightL, Bool.and_eq_false_iff]
    refine Or.inr ?_;rw [List.all_eq_false];exact ⟨_, List.getElem_mem hl, by simp [HCZ.out]⟩
  ·have HF : Hid (rightL (d + 1) l = true) := by
    have h1 := hrec.out;rw [List.take_of_length_le (by omega)] at h1
    show _ = _
    simp only [rightL, h1, Bool.and_true, decide_eq_true_eq]
    omega
   go_wp2_with fail
   go_ret
   exact ⟨ret_bool HF.out.symm, hbel⟩
set_option maxRecDepth 100000 in
set_option maxHeartbeats 1000000 in
theorem right_of (d : Nat) (_hd : d ≤ 100) (hL : RightListAt d) : RightAt d := by
 intro x B w c0 c1 c2 c3 hB hx
 cases x with
 | mk k n s l =>
 rw [rightV_mk];rw [repV_mk] at hx;obtain ⟨rfl, rfl, rfl, hk, hn, hs, hl⟩ := hx;have hl' := hl;obtain ⟨aa, ab, ao, ac, rfl, hlac, hac, -⟩ := hl';have HL := Lib.hid hl; clear hl
 have HLL := Lib.hid hL; clear hL
 have hle : l.isEmpty = decide (l.length = 0) := by cases l <;> simp
 generalize hlen : l.length = len at *;have HE := Lib.hid hle; clear hle hlen
 have hbb : Below w.heap.size w (w.alloc (.cells #[.int .i64 k, .int .i64 n, .string s, .slice aa len ac] 52)) :=
  ((Below.refl _ w).alloc (Nat.le_refl _) _)
 by_cases e1 : k = 1
 ·subst e1
  go_enter Tryz.func64, Tryz.ntmps64
  go_wp2_with fail
  all_goals
   go_ret
   refine ⟨ret_bool ?_, (Below.refl _ w).alloc (Nat.le_refl _) _⟩;simp [baseB, HE.out, *] <;> omega
 by_cases e2 : k = 2
 ·subst e2
  by_cases hn0 : n = 0
  ·subst hn0
   by_cases hz : len = 0
   ·subst hz
    go_enter Tryz.func64, Tryz.ntmps64
    go_wp2_with fail
    refine (rightText_any _ _ hs).mono ?_;rintro e w' ⟨rfl, hb⟩;go_wp2_with fail
    go_ret
    exact ⟨ret_bool (by simp [baseB, HE.out]), hbb.trans (hb.mono (by simp))⟩
   ·have hz' : ((len : Int) == 0) = false := by simp [hz]
    have HB : Hid (baseB 2 0 s l (rightL d l) = false) := by show _ = _; simp [baseB, HE.out, hz]
    clear hz;go_enter Tryz.func64, Tryz.ntmps64
    go_wp2_with fail
    go_ret
    exact ⟨ret_bool HB.out.symm, hbb⟩
  ·have hn' : (n == 0) = false := by simp [hn0]
   have HB : Hid (baseB 2 n s l (rightL d l) = false) := by show _ = _; simp [baseB, hn0]
   clear hn0;go_enter Tryz.func64, Tryz.ntmps64
   go_wp2_with fail
   go_ret
   exact ⟨ret_bool HB.out.symm, hbb⟩
 by_cases e3 : k = 3
 ·subst e3
  by_cases hn0 : n = 0
  ·subst hn0
   by_cases hz : len = 0
   ·subst hz
    go_enter Tryz.func64, Tryz.ntmps64
    go_wp2_with fail
    refine (name_any _ _ hs).mono ?_;rintro e w' ⟨rfl, hb⟩;go_wp2_with fail
    go_ret
    exact ⟨ret_bool (by simp [baseB, HE.out]), hbb.trans (hb.mono (by simp))⟩
   ·have hz' : ((len : Int) == 0) = false := by simp [hz]
    have HB : Hid (baseB 3 0 s l (rightL d l) = false) := by show _ = _; simp [baseB, HE.out, hz]
    clear hz;go_enter Tryz.func64, Tryz.ntmps64
    go_wp2_with fail
    go_ret
    exact ⟨ret_bool HB.out.symm, hbb⟩
  ·have hn' : (n == 0) = false := by simp [hn0]
   have HB : Hid (baseB 3 n s l (rightL d l) = false) := by show _ = _; simp [baseB, hn0]
   clear hn0;go_enter Tryz.func64, Tryz.ntmps64
   go_wp2_with fail
   go_ret
   exact ⟨ret_bool HB.out.symm, hbb⟩
 by_cases e4 : k = 4
 ·subst e4
  by_cases hn0 : n = 0
  ·subst hn0
   by_cases hz : s.toList = []
   ·have HZ := Lib.hid hz
    have hz1 : (!s.toList.isEmpty) = false := by simp [hz]
    go_enter Tryz.func64, Tryz.ntmps64
    go_wp2_with fail
    refine (HLL.out l B _ _ (by simp; omega) (RepL.below (fun j hj => hbb.block j (by omega)) HL.out)).mono ?_;rintro e w' ⟨rfl, hb⟩;go_wp2_with fail
    go_ret
    exact ⟨ret_bool (by simp [baseB, HZ.out]), hbb.trans (hb.mono (by simp))⟩
   ·have hz1 : s.toList.isEmpty = false := by simpa using hz
    have HB : Hid (baseB 4 0 s l (rightL d l) = false) := by show _ = _; simp [baseB, hz]
    go_enter Tryz.func64, Tryz.ntmps64
    go_wp2_with fail
    go_ret
    exact ⟨ret_bool HB.out.symm, hbb⟩
  ·have hn' : (n == 0) = false := by simp [hn0]
   have HB : Hid (baseB 4 n s l (rightL d l) = false) := by show _ = _; simp [baseB, hn0]
   clear hn0;go_enter Tryz.func64, Tryz.ntmps64
   go_wp2_with fail
   go_ret
   exact ⟨ret_bool HB.out.symm, hbb⟩
 ·have f1 : (k == 1) = false := by simp [e1]
  have f2 : (k == 2) = false := by simp [e2]
  have f3 : (k == 3) = false := by simp [e3]
  have f4 : (k == 4) = false := by simp [e4]
  have HB : Hid (baseB k n s l (rightL d l) = false) := by show _ = _; simp [baseB, e1, e2, e3, e4]
  clear e1 e2 e3 e4;go_enter Tryz.func64, Tryz.ntmps64
  go_wp2_with fail
  go_ret
  exact ⟨ret_bool HB.out.symm, hbb⟩
theorem rightWithin_any : ∀ d : Nat, d ≤ 100 → RightAt d
  | 0, h => right_of 0 h (rightList_of 0 h (fun d' e => by omega))
  | d + 1, h => right_of (d + 1) h (rightList_of (d + 1) h (fun d' e => by obtain rfl : d = d' := by omega
                                                                           exact rightWithin_any d (by omega)))
set_option maxRecDepth 100000 in
set_option maxHeartbeats 1000000 in
theorem right_any (x : V) (B : Nat) (w : World) (c0 c1 c2 c3 : Value) (hB : B ≤ w.heap.size) (hx : RepV B w x c0 c1 c2 c3) :
  Calls Tryz.prog 51 #[.agg #[c0, c1, c2, c3]] w fun e w' => e = .returned (.bool (rightV 4 x)) ∧ Below w.heap.size w w' := by
 have HR := Lib.hid (rightWithin_any 4 (by omega));obtain ⟨fa, fc, rfl, rfl, rfl, rfl⟩ := hx.form;have HX := Lib.hid hx; clear hx
 go_enter Tryz.func51, Tryz.ntmps51
 go_wp2_with fail
 have hbb : Below w.heap.size w (w.alloc (.cells #[.int .i64 x.kind, .int .i64 x.num, .string x.text, .slice fa x.list.length fc] 52)) :=
  ((Below.refl _ w).alloc (Nat.le_refl _) _)
 refine (HR.out x B _ _ _ _ _ (by simp; omega) (RepV.below (fun j hj => hbb.block j (by omega)) _ HX.out)).mono ?_;rintro e w' ⟨rfl, hb⟩;go_wp2_with fail
 go_ret
 exact ⟨rfl, hbb.trans (hb.mono (by simp))⟩
end Go.Proofs.YtcmlojigcgihbaaGreat
namespace Go.Proofs.YtcmlojigcgihbaaGreat
open Go.RowKit
theorem alloc_new' (w : World) (o : Obj) : (w.alloc o).heap[w.heap.size]? = some o := by
 show (w.heap.push o)[w.heap.size]? = _
 simp
theorem cell_of_block' {w : World} {k i : Nat} {cs : Array Value} {t : TypeId} {fz : Nat × Nat} (h : w.heap[k]? = some (.cells cs t fz)) (v : Value) (hv : cs[i]? = some v) : w.cell? ⟨k, i, none⟩ = some v := by
 simp [World.cell?, h, hv]
theorem RepLG.at {S : Nat → Prop} {w : World} {l : List V} {a : Option Addr} {n cap : Nat} (h : RepLG S w l (.slice a n cap)) (i : Nat) (hi : i < l.length) :
  n = l.length ∧ l.length ≤ cap ∧ ∃ b o fa fc, a = some ⟨b, o, none⟩ ∧ S b ∧ w.cell? ⟨b, o + i * 4, none⟩ = some (.int .i64 l[i].kind) ∧ w.cell? ⟨b, o + i * 4 + 1, none⟩ = some (.int .i64 l[i].num) ∧ w.cell? ⟨b, o + i * 4 + 2, none⟩ = some (.string l[i].text) ∧
   w.cell? ⟨b, o + i * 4 + 3, none⟩ = some (.slice fa l[i].list.length fc) ∧ RepG S w l[i] (.int .i64 l[i].kind) (.int .i64 l[i].num) (.string l[i].text) (.slice fa l[i].list.length fc) := by
 obtain ⟨a', b, o, cap', e, h6, h7, h8, h9, h10⟩ := h
 cases e
 obtain ⟨x0, x1, x2, x3, g0, g1, g2, g3, g⟩ := h10 i hi;obtain ⟨fa, fc, rfl, rfl, rfl, rfl⟩ := g.form;exact ⟨rfl, h6, b, o, fa, fc, h8 (by omega), h9 (by omega), g0, g1, g2, g3, g⟩
theorem below_alloc (w : World) (o : Obj) : Below w.heap.size w (w.alloc o) := (Below.refl _ w).alloc (Nat.le_refl _) o
end Go.Proofs.YtcmlojigcgihbaaGreat
namespace Go.Proofs.YtcmlojigcgihbaaGreat
open Go.RowKit
def Boxed (w : World) (k : Nat) (c0 c1 c2 c3 : Value) : Prop := w.heap[k]? = some (.cells #[c0, c1, c2, c3] 52 (0, 0))
theorem Boxed.cells {w : World} {k : Nat} {c0 c1 c2 c3 : Value} (h : Boxed w k c0 c1 c2 c3) : w.cell? ⟨k, 0, none⟩ = some c0 ∧ w.cell? ⟨k, 1, none⟩ = some c1 ∧ w.cell? ⟨k, 2, none⟩ = some c2 ∧ w.cell? ⟨k, 3, none⟩ = some c3 :=
 ⟨cell_of_block' h _ rfl, cell_of_block' h _ rfl, cell_of_block' h _ rfl, cell_of_block' h _ rfl⟩
theorem Boxed.lt {w : World} {k : Nat} {c0 c1 c2 c3 : Value} (h : Boxed w k c0 c1 c2 c3) : k < w.heap.size := (Array.getElem?_eq_some_iff.1 h).1
theorem Boxed.on {w w' : World} {k : Nat} {c0 c1 c2 c3 : Value} (h : Boxed w k c0 c1 c2 c3) (hb : Below w.heap.size w w') : Boxed w' k c0 c1 c2 c3 := (hb.block k h.lt).trans h
theorem boxed_new (w : World) (c0 c1 c2 c3 : Value) : Boxed (w.alloc (.cells #[c0, c1, c2, c3] 52)) w.heap.size c0 c1 c2 c3 := alloc_new' _ _
theorem Below.step {w w1 w2 : World} (h : Below w.heap.size w w1) (h' : Below w1.heap.size w1 w2) : Below w.heap.size w w2 := h.trans (h'.mono h.size)
end Go.Proofs.YtcmlojigcgihbaaGreat
