/-
  SixTexts, Name, Variable
-/
import Derived.Test.YtjohcnhiblfbnaaGreatK01
import Derived.Test.YtjohcnhiblfbnaaGreatK06
import Derived.WalkSpells
import Derived.WalkLawsBesides
namespace Go.Proofs.YtjohcnhiblfbnaaGreat
open Go.RowKit
theorem take_ne {xs ys : List ByteArray} {k : Nat} (h1 : k < xs.length) (h2 : k < ys.length) (h : xs[k] ≠ ys[k]) : xs ≠ ys := by
 rintro rfl; exact h rfl
set_option maxRecDepth 100000 in
set_option maxHeartbeats 4000000 in
theorem texts_any (xs ys : List ByteArray) (S : Nat → Prop) (w : World) (va vb : Value) (hS : ∀ k, S k → k < w.heap.size) (ha : TxAt S w xs va) (hb : TxAt S w ys vb) :
  Calls Tryz.prog 16 #[va, vb] w fun e w' => e = .returned (.bool (decide (xs = ys))) ∧ Below w.heap.size w w' := by
 have HA := Lib.hid ha; have HB := Lib.hid hb; have HS := Lib.hid hS
 obtain ⟨fa, ac, rfl⟩ := SlG.form ha;obtain ⟨ga, bc, rfl⟩ := SlG.form hb;have HLN : Hid (xs.length ≤ 140737488355328 ∧ ys.length ≤ 140737488355328) := by have h1 := SlG.bytes ha; have h2 := SlG.bytes hb; exact ⟨by omega, by omega⟩
 clear ha hb hS;go_enter Tryz.func16, Tryz.ntmps16
 by_cases hl : xs.length = ys.length
 ·have hl1 : ((xs.length : Int) == (ys.length : Int)) = true := by rw [hl]; simp
  have hl2 : ((xs.length : Int) != (ys.length : Int)) = false := by rw [hl]; simp
  have hl3 : (xs.length == ys.length) = true := by rw [hl]; simp
  have HL := Lib.hid hl;clear hl;go_wp2_with fail
  clear hl1 hl2 hl3;go_loopw [5] (fun iv wr => ∃ k : Nat, k ≤ xs.length ∧ iv = .int .i64 (k : Int) ∧ xs.take k = ys.take k ∧ Below w.heap.size w wr) (fun iv _ => xs.length - (intOf iv).toNat)
  case atStart => exact ⟨0, Nat.zero_le _, rfl, by simp, Below.refl _ _⟩
  case round =>
   obtain ⟨k, hk, rfl, ht, hb⟩ := hrel;have HT := Lib.hid ht; have HBW := Lib.hid hb
   clear ht hb
   by_cases hlt : k < xs.length
   ·have i1 : decide ((k : Int) < (xs.length : Int)) = true := decide_eq_true (by omega)
    have i2 : decide (k < xs.length) = true := decide_eq_true hlt;obtain ⟨-, -, ab, ao, hfa, hSa, c, hc, hx⟩ := SlG.at HA.out k hlt;have hlb : k < ys.length := by have := HL.out; omega
    obtain ⟨-, -, bb, bo, hga, hSb, d, hd, hy⟩ := SlG.at HB.out k hlb;have q0 := hc 0 (by omega); have q1 := hd 0 (by omega)
    rw [Nat.mul_one, Nat.add_zero, hx] at q0;rw [Nat.mul_one, Nat.add_zero, hy] at q1;have h1 := HS.out ab hSa; have h2 := HS.out bb hSb
    have HPA : Hid (ab < wr.heap.size ∧ wr.cell? ⟨ab, ao + k, none⟩ = some (.string xs[k])) := ⟨Nat.lt_of_lt_of_le h1 HBW.out.size, (HBW.out.cell (p := ⟨ab, ao + k, none⟩) h1).trans q0⟩;have HPB : Hid (bb < wr.heap.size ∧ wr.cell? ⟨bb, bo + k, none⟩ = some (.string ys[k])) := ⟨Nat.lt_of_lt_of_le h2 HBW.out.size, (HBW.out.cell (p := ⟨bb, bo + k, none⟩) h2).trans q1⟩;have HK1 : Hid ((0 : Int) ≤ (k : Int)) := Int.natCast_nonneg k;have HK2 : Hid ((k : Int) < (xs.length : Int)) := by show _ < _; omega
    have HK3 : Hid ((k : Int) < (ys.length : Int)) := by show _ < _; omega
    have HK5 : Hid (k < xs.length ∧ xs.length ≤ 140737488355328) := ⟨hlt, HLN.out.1⟩;have HNE : Hid (xs[k] ≠ ys[k] → xs ≠ ys) := take_ne hlt hlb;have HTK : Hid (xs[k] = ys[k] → xs.take (k + 1) = ys.take (k + 1)) := fun e => by rw [List.take_succ_eq_append_getElem hlt, List.take_succ_eq_append_getElem hlb, HT.out, e]
    subst hfa hga;clear hSa hSb c hc hx d hd hy q0 q1 h1 h2;generalize xs[k] = x at *;generalize ys[k] = y at *;clear hlb hk hlt;go_wp2_with fail
    refine wp_region_factsG (by rfl) 26 (by rfl) (by kernel_rfl) (FA [.e (.slice (some ⟨ab, ao, none⟩) xs.length ac), .e (.int .i64 (k : Int)), .e (.pointer (some ⟨ab, ao + k, none⟩)), .e (.string x), .e (.slice (some ⟨bb, bo, none⟩) ys.length bc), .e (.int .i64 (k : Int)), .e (.pointer (some ⟨bb, bo + k, none⟩)), .e (.string y), .e (.bool (!(x.toList == y.toList)))]) (fun w' => Below wr.heap.size wr w') (Below.drew (Below.refl _ _)) ⟨?s0, ?s1, ?s2, ?s3, ?s4, ?s5, ?s6, ?s7, ?s8, trivial⟩ ?fin
    case s0 =>
     intro a w' hoff hg hdep K hK;have h0 := off_at hoff 0 (v := .slice (some ⟨ab, ao, none⟩) xs.length ac) (by kernel_rfl) rfl;rw [if_pos (by rfl)];go_simp;exact hK.out _ _ hg rfl (fun _ _ h => h)
    case s1 =>
     intro a w' hoff hg hdep K hK;have h5 := off_at hoff 5 (v := .int .i64 (k : Int)) (by kernel_rfl) rfl;rw [if_pos (by rfl)];go_simp;exact hK.out _ _ hg rfl (fun _ _ h => h)
    case s2 =>
     intro a w' hoff hg hdep K hK;obtain ⟨_, e0, rfl⟩ := hdep 0 _ 17 (by kernel_rfl) rfl rfl;obtain ⟨_, e1, rfl⟩ := hdep 1 _ 18 (by kernel_rfl) rfl rfl;rw [if_pos (by rfl)];have hk1 := HK1.out; have hk2 := HK2.out
     go_simp;exact hK.out _ _ hg rfl (fun _ _ h => h)
    case s3 =>
     intro a w' hoff hg hdep K hK;obtain ⟨_, e2, rfl⟩ := hdep 2 _ 19 (by kernel_rfl) rfl rfl;rw [if_pos (by rfl)];have p0 := (hg.cell (p := ⟨ab, ao + k, none⟩) HPA.out.1).trans HPA.out.2; have p1 := (hg.cell (p := ⟨bb, bo + k, none⟩) HPB.out.1).trans HPB.out.2
     go_simp;exact hK.out _ _ hg rfl (fun _ _ h => h)
    case s4 =>
     intro a w' hoff hg hdep K hK;have h1 := off_at hoff 1 (v := .slice (some ⟨bb, bo, none⟩) ys.length bc) (by kernel_rfl) rfl;rw [if_pos (by rfl)];go_simp;exact hK.out _ _ hg rfl (fun _ _ h => h)
    case s5 =>
     intro a w' hoff hg hdep K hK;have h5 := off_at hoff 5 (v := .int .i64 (k : Int)) (by kernel_rfl) rfl;rw [if_pos (by rfl)];go_simp;exact hK.out _ _ hg rfl (fun _ _ h => h)
    case s6 =>
     intro a w' hoff hg hdep K hK;obtain ⟨_, e4, rfl⟩ := hdep 4 _ 21 (by kernel_rfl) rfl rfl;obtain ⟨_, e5, rfl⟩ := hdep 5 _ 22 (by kernel_rfl) rfl rfl;rw [if_pos (by rfl)];have hk1 := HK1.out; have hk2 := HK3.out
     go_simp;exact hK.out _ _ hg rfl (fun _ _ h => h)
    case s7 =>
     intro a w' hoff hg hdep K hK;obtain ⟨_, e6, rfl⟩ := hdep 6 _ 23 (by kernel_rfl) rfl rfl;rw [if_pos (by rfl)];have p0 := (hg.cell (p := ⟨ab, ao + k, none⟩) HPA.out.1).trans HPA.out.2; have p1 := (hg.cell (p := ⟨bb, bo + k, none⟩) HPB.out.1).trans HPB.out.2
     go_simp;exact hK.out _ _ hg rfl (fun _ _ h => h)
    case s8 =>
     intro a w' hoff hg hdep K hK;obtain ⟨_, e3, rfl⟩ := hdep 3 _ 20 (by kernel_rfl) rfl rfl;obtain ⟨_, e7, rfl⟩ := hdep 7 _ 24 (by kernel_rfl) rfl rfl;rw [if_pos (by rfl)];go_simp;exact hK.out _ _ hg rfl (fun _ _ h => h)
    case fin =>
     intro a w9 hoff hg hf;obtain ⟨_, e0, rfl⟩ := hf 0 _ 17 rfl rfl;obtain ⟨_, e1, rfl⟩ := hf 1 _ 18 rfl rfl;obtain ⟨_, e2, rfl⟩ := hf 2 _ 19 rfl rfl;obtain ⟨_, e3, rfl⟩ := hf 3 _ 20 rfl rfl;obtain ⟨_, e4, rfl⟩ := hf 4 _ 21 rfl rfl;obtain ⟨_, e5, rfl⟩ := hf 5 _ 22 rfl rfl;obtain ⟨_, e6, rfl⟩ := hf 6 _ 23 rfl rfl;obtain ⟨_, e7, rfl⟩ := hf 7 _ 24 rfl rfl;obtain ⟨_, e8, rfl⟩ := hf 8 _ 25 rfl rfl;rw [hoff.sets [(17, .slice (some ⟨ab, ao, none⟩) xs.length ac), (18, .int .i64 (k : Int)), (19, .pointer (some ⟨ab, ao + k, none⟩)), (20, .string x), (21, .slice (some ⟨bb, bo, none⟩) ys.length bc), (22, .int .i64 (k : Int)), (23, .pointer (some ⟨bb, bo + k, none⟩)), (24, .string y), (25, .bool (!(x.toList == y.toList)))] (by kernel_rfl) (by intro p hp; simp only [List.mem_cons, List.not_mem_nil, or_false] at hp; rcases hp with rfl | rfl | rfl | rfl | rfl | rfl | rfl | rfl | rfl <;> assumption)];clear hoff hf e0 e1 e2 e3 e4 e5 e6 e7 e8;simp only [List.foldl_cons, List.foldl_nil, List.setIfInBounds_toArray, List.set_cons_zero, List.set_cons_succ]
     clear i1 i2;have HB9 := Lib.hid (HBW.out.trans (hg.mono HBW.out.size));clear hg;obtain ⟨v, hv⟩ : ∃ v : Bool, (!(x.toList == y.toList)) = v := ⟨_, rfl⟩;rw [hv]
     cases v with
     | false =>
      have hxy : x = y := by
       have h1 : x.toList = y.toList := by simpa using hv
       rw [Lib.toList_data, Lib.toList_data] at h1;exact ByteArray.ext (Array.toList_inj.1 h1)
      have HT2 := Lib.hid (HTK.out hxy);clear hv hxy;go_wp2_with fail
      go_roundw
      case rel => exact ⟨k + 1, HK5.out.1, (by have := HK5.out; rw [show wrap64 ((k : Int) + 1) = ((k + 1 : Nat) : Int) by unfold wrap64; omega]), HT2.out, HB9.out⟩
      case measure =>
       have := HK5.out;rw [show wrap64 ((k : Int) + 1) = (k : Int) + 1 by unfold wrap64; omega];simp only [intOf]; omega
     | true =>
      have hxy : x ≠ y := by rintro rfl; simp at hv
      have HQ : Hid (decide (xs = ys) = false) := decide_eq_false (HNE.out hxy);clear hv hxy;go_wp2_with fail
      refine bodyPost_ret (v := .bool false) (by simp [results, Tryz.results16, go_sem]) rfl ⟨by rw [HQ.out], HB9.out⟩
   ·have i1 : decide ((k : Int) < (xs.length : Int)) = false := decide_eq_false (by omega)
    have i2 : decide (k < xs.length) = false := decide_eq_false hlt
    have HQ : Hid (decide (xs = ys) = true) := decide_eq_true (by
     have h := HT.out;rw [List.take_of_length_le (by omega), List.take_of_length_le (by have := HL.out; omega)] at h
     exact h)
    clear hk hlt;go_wp2_with fail
    refine bodyPost_ret (v := .bool true) (by simp [results, Tryz.results16, go_sem]) rfl ⟨by rw [HQ.out], HBW.out⟩
 ·have hl1 : ((xs.length : Int) == (ys.length : Int)) = false := by rw [beq_eq_false_iff_ne]; omega
  have hl2 : ((xs.length : Int) != (ys.length : Int)) = true := by simp; omega
  have hl3 : (xs.length == ys.length) = false := by rw [beq_eq_false_iff_ne]; exact hl
  have HQ : Hid (decide (xs = ys) = false) := decide_eq_false (fun e => hl (by rw [e]));go_wp2_with fail
  refine bodyPost_ret (v := .bool false) (by simp [results, Tryz.results16, go_sem]) rfl ⟨by rw [HQ.out], Below.refl _ _⟩
end Go.Proofs.YtjohcnhiblfbnaaGreat
namespace Go.Proofs.YtjohcnhiblfbnaaGreat
open Go.RowKit
def smallB (r : Int) : Bool := decide (97 ≤ r ∧ r ≤ 122)
def digitB (r : Int) : Bool := decide (48 ≤ r ∧ r ≤ 57)
def okAt (i : Nat) (r : Int) : Bool := smallB r || (!(decide (i = 0)) && (digitB r || (r == 95)))
def nameB (s : ByteArray) : Bool := decide (1 ≤ s.size ∧ s.size ≤ 16 ∧ ∀ i (h : i < s.size), okAt i (s[i].toNat : Int) = true)
def okText (r : Int) : Bool := decide (32 ≤ r ∧ r ≤ 126 ∧ r ≠ 34 ∧ r ≠ 92)
def textB (s : ByteArray) : Bool := decide (s.size ≤ 32 ∧ ∀ i (h : i < s.size), okText (s[i].toNat : Int) = true)
theorem okAt_high (i : Nat) (r : Int) (h : 128 ≤ r) : okAt i r = false := by
 simp only [okAt, smallB, digitB, Bool.or_eq_false_iff, Bool.and_eq_false_iff, decide_eq_false_iff_not, beq_eq_false_iff_ne, Bool.not_eq_false', decide_eq_true_eq]
 omega
theorem okText_high (r : Int) (h : 128 ≤ r) : okText r = false := by
 simp only [okText, decide_eq_false_iff_not]
 omega
theorem rune_at (s : ByteArray) (pos : Nat) (h : pos < s.size) :
  (∃ c : Nat, c < 128 ∧ Utf8.decode s pos = (c, 1) ∧ s[pos].toNat = c) ∨ (128 ≤ (Utf8.decode s pos).1 ∧ (Utf8.decode s pos).1 ≤ 2147483647 ∧ 128 ≤ s[pos].toNat) := by
 by_cases ha : (s[pos]'h).toNat < 128
 ·exact Or.inl ⟨_, ha, decode_ascii s pos h ha, rfl⟩
 ·exact Or.inr ⟨(decode_high s pos h (by omega)).1, decode_le s pos, by omega⟩
theorem nameB_true {s : ByteArray} (h1 : 1 ≤ s.size) (h2 : s.size ≤ 16) (h : ∀ i (h : i < s.size), okAt i (s[i].toNat : Int) = true) : nameB s = true := decide_eq_true ⟨h1, h2, h⟩
theorem nameB_false {s : ByteArray} {i : Nat} (h : i < s.size) (e : okAt i (s[i].toNat : Int) = false) : nameB s = false := decide_eq_false fun ⟨_, _, g⟩ => by rw [g i h] at e; cases e
theorem nameB_size {s : ByteArray} (h : s.size < 1 ∨ 16 < s.size) : nameB s = false := decide_eq_false fun ⟨_, _, _⟩ => by omega
theorem textB_true {s : ByteArray} (h2 : s.size ≤ 32) (h : ∀ i (h : i < s.size), okText (s[i].toNat : Int) = true) : textB s = true := decide_eq_true ⟨h2, h⟩
theorem textB_false {s : ByteArray} {i : Nat} (h : i < s.size) (e : okText (s[i].toNat : Int) = false) : textB s = false := decide_eq_false fun ⟨_, g⟩ => by rw [g i h] at e; cases e
theorem textB_size {s : ByteArray} (h : 32 < s.size) : textB s = false := decide_eq_false fun ⟨_, _⟩ => by omega
theorem ret_bool {a b : Bool} (h : a = b) : Ending.returned (.bool a) = .returned (.bool b) := by rw [h]
theorem small_any (r : Int) (w : World) : Calls Tryz.prog 107 #[.int .i32 r] w fun e w' => e = .returned (.bool (smallB r)) ∧ w = w' := by
 by_cases h1 : 97 ≤ r
 ·by_cases h2 : r ≤ 122
  ·have HF : Hid (smallB r = true) := decide_eq_true ⟨h1, h2⟩
   go_enter Tryz.func107, Tryz.ntmps107
   go_wp2
   go_ret
   exact ⟨ret_bool HF.out.symm, rfl⟩
  ·have HF : Hid (smallB r = false) := decide_eq_false (by omega)
   go_enter Tryz.func107, Tryz.ntmps107
   go_wp2
   go_ret
   exact ⟨ret_bool HF.out.symm, rfl⟩
 ·have HF : Hid (smallB r = false) := decide_eq_false (by omega)
  have hd : decide (97 ≤ r) = false := by simpa using h1
  go_enter Tryz.func107, Tryz.ntmps107
  go_wp2
  go_ret
  exact ⟨ret_bool HF.out.symm, rfl⟩
theorem digit_any (r : Int) (w : World) : Calls Tryz.prog 108 #[.int .i32 r] w fun e w' => e = .returned (.bool (digitB r)) ∧ w = w' := by
 by_cases h1 : 48 ≤ r
 ·by_cases h2 : r ≤ 57
  ·have HF : Hid (digitB r = true) := decide_eq_true ⟨h1, h2⟩
   go_enter Tryz.func108, Tryz.ntmps108
   go_wp2
   go_ret
   exact ⟨ret_bool HF.out.symm, rfl⟩
  ·have HF : Hid (digitB r = false) := decide_eq_false (by omega)
   go_enter Tryz.func108, Tryz.ntmps108
   go_wp2
   go_ret
   exact ⟨ret_bool HF.out.symm, rfl⟩
 ·have HF : Hid (digitB r = false) := decide_eq_false (by omega)
  have hd : decide (48 ≤ r) = false := by simpa using h1
  go_enter Tryz.func108, Tryz.ntmps108
  go_wp2
  go_ret
  exact ⟨ret_bool HF.out.symm, rfl⟩
set_option maxRecDepth 100000 in
set_option maxHeartbeats 1000000 in
theorem name_any (s : ByteArray) (w : World) (hs : s.size ≤ maxLen) :
  Calls Tryz.prog 93 #[.string s] w fun e w' => e = .returned (.bool (nameB s)) ∧ Below w.heap.size w w' := by
 unfold maxLen at hs
 by_cases hz : s.size < 1
 ·have HF := Lib.hid (nameB_size (s := s) (Or.inl hz))
  go_enter Tryz.func93, Tryz.ntmps93
  go_wp2_with fail
  go_ret
  exact ⟨ret_bool HF.out.symm, Below.refl _ _⟩
 by_cases hz2 : 16 < s.size
 ·have HF := Lib.hid (nameB_size (s := s) (Or.inr hz2))
  go_enter Tryz.func93, Tryz.ntmps93
  go_wp2_with fail
  go_ret
  exact ⟨ret_bool HF.out.symm, Below.refl _ _⟩
 have hb1 : decide ((s.size : Int) < 1) = false := by simp; omega
 have hb2 : decide (16 < (s.size : Int)) = false := by simp; omega
 go_enter Tryz.func93, Tryz.ntmps93
 go_wp2_with fail
 go_loopw [2] (fun _ w' => ∃ (pos : Nat), w' = w.iter s pos ∧ pos ≤ s.size ∧ Hid (∀ i (h : i < s.size), i < pos → okAt i (s[i].toNat : Int) = true)) (fun _ w' => s.size - w'.iterPos w.heap.size)
 case atStart => exact ⟨0, rfl, Nat.zero_le _, fun i _ hi => by omega⟩
 case round =>
  obtain ⟨pos, rfl, hpos, hok⟩ := hrel;have hbel : Below w.heap.size w (w.iter s (pos + (Utf8.decode s pos).2)) := (Below.refl _ w).alloc (Nat.le_refl _) _;have hbel0 : Below w.heap.size w (w.iter s pos) := (Below.refl _ w).alloc (Nat.le_refl _) _
  by_cases hp : pos < s.size
  ·have hnx : ∀ ty, (Instr.next (.pointer (some ⟨w.heap.size, 0, none⟩)) true ty).run Tryz.prog (w.iter s pos) = _ := fun ty => run_next_any w s pos ty hp
   have hru := rune_at s pos hp
   have HOK : Hid ((okAt pos ((Utf8.decode s pos).1 : Int) = true → okAt pos (s[pos].toNat : Int) = true ∧ (Utf8.decode s pos).2 = 1) ∧ (okAt pos ((Utf8.decode s pos).1 : Int) = false → okAt pos (s[pos].toNat : Int) = false)) := by
    show _ ∧ _
    rcases hru with ⟨c, hc, he, hcc⟩ | ⟨h1, h2, h3⟩
    ·rw [he, hcc]; exact ⟨fun h => ⟨h, rfl⟩, fun h => h⟩
    ·rw [okAt_high _ _ (by omega : (128 : Int) ≤ ((Utf8.decode s pos).1 : Int)), okAt_high _ _ (by omega : (128 : Int) ≤ (s[pos].toNat : Int))]; exact ⟨(fun h => by cases h), fun h => h⟩
   clear hru;generalize hd : Utf8.decode s pos = d at *;obtain ⟨r, wd⟩ := d;clear hd
   dsimp only at hnx HOK hbel
   cases h1 : smallB (r : Int) with
   | true =>
    have HK : Hid (okAt pos (r : Int) = true) := by show _ = _; simp [okAt, h1]
    go_wp2_with (first | (go_at_call 107; refine (small_any _ _).mono ?_; rintro e w' ⟨rfl, rfl⟩) | (go_at_call 108; refine (digit_any _ _).mono ?_; rintro e w' ⟨rfl, rfl⟩))
    go_roundw
    case rel =>
     obtain ⟨g1, g2⟩ := HOK.out.1 HK.out;refine ⟨pos + wd, rfl, by omega, fun i hi hi2 => ?_⟩
     by_cases e : i = pos
     ·subst e; exact g1
     ·exact hok.out i hi (by omega)
    case measure =>
     obtain ⟨g1, g2⟩ := HOK.out.1 HK.out;simp
     omega
   | false =>
   by_cases h2 : pos = 0
   ·have HK : Hid (okAt pos (r : Int) = false) := by show _ = _; simp [okAt, h1, h2]
    have h2' : ((pos : Int) == 0) = true := by simp [h2]
    clear h2;go_wp2_with (first | (go_at_call 107; refine (small_any _ _).mono ?_; rintro e w' ⟨rfl, rfl⟩) | (go_at_call 108; refine (digit_any _ _).mono ?_; rintro e w' ⟨rfl, rfl⟩))
    go_ret
    exact ⟨ret_bool (nameB_false hp (HOK.out.2 HK.out)).symm, hbel⟩
   have h2' : ((pos : Int) == 0) = false := by simp [h2]
   cases h3 : digitB (r : Int) with
   | true =>
    have HK : Hid (okAt pos (r : Int) = true) := by show _ = _; simp [okAt, h1, h2, h3]
    clear h2;go_wp2_with (first | (go_at_call 107; refine (small_any _ _).mono ?_; rintro e w' ⟨rfl, rfl⟩) | (go_at_call 108; refine (digit_any _ _).mono ?_; rintro e w' ⟨rfl, rfl⟩))
    go_roundw
    case rel =>
     obtain ⟨g1, g2⟩ := HOK.out.1 HK.out;refine ⟨pos + wd, rfl, by omega, fun i hi hi2 => ?_⟩
     by_cases e : i = pos
     ·subst e; exact g1
     ·exact hok.out i hi (by omega)
    case measure =>
     obtain ⟨g1, g2⟩ := HOK.out.1 HK.out;simp
     omega
   | false =>
   by_cases h4 : (r : Int) = 95
   ·have HK : Hid (okAt pos (r : Int) = true) := by show _ = _; simp [okAt, h2, h4]
    have h4' : ((r : Int) != 95) = false := by simp [h4]
    clear h2 h4;go_wp2_with (first | (go_at_call 107; refine (small_any _ _).mono ?_; rintro e w' ⟨rfl, rfl⟩) | (go_at_call 108; refine (digit_any _ _).mono ?_; rintro e w' ⟨rfl, rfl⟩))
    go_roundw
    case rel =>
     obtain ⟨g1, g2⟩ := HOK.out.1 HK.out;refine ⟨pos + wd, rfl, by omega, fun i hi hi2 => ?_⟩
     by_cases e : i = pos
     ·subst e; exact g1
     ·exact hok.out i hi (by omega)
    case measure =>
     obtain ⟨g1, g2⟩ := HOK.out.1 HK.out;simp
     omega
   ·have HK : Hid (okAt pos (r : Int) = false) := by show _ = _; simp [okAt, h1, h3, h4]
    have h4' : ((r : Int) != 95) = true := by simp [h4]
    clear h2 h4;go_wp2_with (first | (go_at_call 107; refine (small_any _ _).mono ?_; rintro e w' ⟨rfl, rfl⟩) | (go_at_call 108; refine (digit_any _ _).mono ?_; rintro e w' ⟨rfl, rfl⟩))
    go_ret
    exact ⟨ret_bool (nameB_false hp (HOK.out.2 HK.out)).symm, hbel⟩
  ·have hnx : ∀ ty, (Instr.next (.pointer (some ⟨w.heap.size, 0, none⟩)) true ty).run Tryz.prog (w.iter s pos) = _ := fun ty => run_next_end w s pos ty hp
   have HF := Lib.hid (nameB_true (s := s) (by omega) (by omega) (fun i hi => hok.out i hi (by omega)));go_wp2_with fail
   go_ret
   exact ⟨ret_bool HF.out.symm, hbel0⟩
set_option maxRecDepth 100000 in
set_option maxHeartbeats 1000000 in
theorem rightText_any (s : ByteArray) (w : World) (hs : s.size ≤ maxLen) :
  Calls Tryz.prog 110 #[.string s] w fun e w' => e = .returned (.bool (textB s)) ∧ Below w.heap.size w w' := by
 unfold maxLen at hs
 by_cases hz2 : 32 < s.size
 ·have HF := Lib.hid (textB_size (s := s) hz2)
  go_enter Tryz.func110, Tryz.ntmps110
  go_wp2_with fail
  go_ret
  exact ⟨ret_bool HF.out.symm, Below.refl _ _⟩
 have hb2 : decide (32 < (s.size : Int)) = false := by simp; omega
 go_enter Tryz.func110, Tryz.ntmps110
 go_wp2_with fail
 go_loopw [2] (fun _ w' => ∃ (pos : Nat), w' = w.iter s pos ∧ pos ≤ s.size ∧ Hid (∀ i (h : i < s.size), i < pos → okText (s[i].toNat : Int) = true)) (fun _ w' => s.size - w'.iterPos w.heap.size)
 case atStart => exact ⟨0, rfl, Nat.zero_le _, fun i _ hi => by omega⟩
 case round =>
  obtain ⟨pos, rfl, hpos, hok⟩ := hrel;have hbel : Below w.heap.size w (w.iter s (pos + (Utf8.decode s pos).2)) := (Below.refl _ w).alloc (Nat.le_refl _) _;have hbel0 : Below w.heap.size w (w.iter s pos) := (Below.refl _ w).alloc (Nat.le_refl _) _
  by_cases hp : pos < s.size
  ·have hnx : ∀ ty, (Instr.next (.pointer (some ⟨w.heap.size, 0, none⟩)) true ty).run Tryz.prog (w.iter s pos) = _ := fun ty => run_next_any w s pos ty hp
   have hru := rune_at s pos hp
   have HOK : Hid ((okText ((Utf8.decode s pos).1 : Int) = true → okText (s[pos].toNat : Int) = true ∧ (Utf8.decode s pos).2 = 1) ∧ (okText ((Utf8.decode s pos).1 : Int) = false → okText (s[pos].toNat : Int) = false)) := by
    show _ ∧ _
    rcases hru with ⟨c, hc, he, hcc⟩ | ⟨h1, h2, h3⟩
    ·rw [he, hcc]; exact ⟨fun h => ⟨h, rfl⟩, fun h => h⟩
    ·rw [okText_high _ (by omega : (128 : Int) ≤ ((Utf8.decode s pos).1 : Int)), okText_high _ (by omega : (128 : Int) ≤ (s[pos].toNat : Int))]; exact ⟨(fun h => by cases h), fun h => h⟩
   clear hru;generalize hd : Utf8.decode s pos = d at *;obtain ⟨r, wd⟩ := d;clear hd
   dsimp only at hnx HOK hbel
   by_cases h1 : (r : Int) < 32
   ·have HK : Hid (okText (r : Int) = false) := decide_eq_false (by omega)
    have h1' : decide ((r : Int) < 32) = true := by simpa using h1
    go_wp2_with fail
    go_ret
    exact ⟨ret_bool (textB_false hp (HOK.out.2 HK.out)).symm, hbel⟩
   have h1' : decide ((r : Int) < 32) = false := by simpa using h1
   by_cases h2 : 126 < (r : Int)
   ·have HK : Hid (okText (r : Int) = false) := decide_eq_false (by omega)
    have h2' : decide (126 < (r : Int)) = true := by simpa using h2
    go_wp2_with fail
    go_ret
    exact ⟨ret_bool (textB_false hp (HOK.out.2 HK.out)).symm, hbel⟩
   have h2' : decide (126 < (r : Int)) = false := by simpa using h2
   by_cases h3 : (r : Int) = 34
   ·have HK : Hid (okText (r : Int) = false) := decide_eq_false (by omega)
    have h3' : ((r : Int) == 34) = true := by simp [h3]
    clear h3;go_wp2_with fail
    go_ret
    exact ⟨ret_bool (textB_false hp (HOK.out.2 HK.out)).symm, hbel⟩
   have h3' : ((r : Int) == 34) = false := by simp [h3]
   by_cases h4 : (r : Int) = 92
   ·have HK : Hid (okText (r : Int) = false) := decide_eq_false (by omega)
    have h4' : ((r : Int) == 92) = true := by simp [h4]
    clear h3 h4;go_wp2_with fail
    go_ret
    exact ⟨ret_bool (textB_false hp (HOK.out.2 HK.out)).symm, hbel⟩
   ·have HK : Hid (okText (r : Int) = true) := decide_eq_true (by omega)
    have h4' : ((r : Int) == 92) = false := by simp [h4]
    clear h3 h4;go_wp2_with fail
    go_roundw
    case rel =>
     obtain ⟨g1, g2⟩ := HOK.out.1 HK.out;refine ⟨pos + wd, rfl, by omega, fun i hi hi2 => ?_⟩
     by_cases e : i = pos
     ·subst e; exact g1
     ·exact hok.out i hi (by omega)
    case measure =>
     obtain ⟨g1, g2⟩ := HOK.out.1 HK.out;simp
     omega
  ·have hnx : ∀ ty, (Instr.next (.pointer (some ⟨w.heap.size, 0, none⟩)) true ty).run Tryz.prog (w.iter s pos) = _ := fun ty => run_next_end w s pos ty hp
   have HF := Lib.hid (textB_true (s := s) (by omega) (fun i hi => hok.out i hi (by omega)));go_wp2_with fail
   go_ret
   exact ⟨ret_bool HF.out.symm, hbel0⟩
end Go.Proofs.YtjohcnhiblfbnaaGreat
namespace Go.Proofs.YtjohcnhiblfbnaaGreat
open Go.RowKit
def greatB (r : Int) : Bool := decide (65 ≤ r ∧ r ≤ 90)
def okVar (i : Nat) (r : Int) : Bool := greatB r || (!(decide (i = 0)) && (smallB r || (digitB r || (r == 95))))
def varB (s : ByteArray) : Bool := decide (1 ≤ s.size ∧ s.size ≤ 16 ∧ ∀ i (h : i < s.size), okVar i (s[i].toNat : Int) = true)
theorem okVar_high (i : Nat) (r : Int) (h : 128 ≤ r) : okVar i r = false := by
 simp only [okVar, greatB, smallB, digitB, Bool.or_eq_false_iff, Bool.and_eq_false_iff, decide_eq_false_iff_not, beq_eq_false_iff_ne, Bool.not_eq_false', decide_eq_true_eq]
 omega
theorem varB_true {s : ByteArray} (h1 : 1 ≤ s.size) (h2 : s.size ≤ 16) (h : ∀ i (h : i < s.size), okVar i (s[i].toNat : Int) = true) : varB s = true := decide_eq_true ⟨h1, h2, h⟩
theorem varB_false {s : ByteArray} {i : Nat} (h : i < s.size) (e : okVar i (s[i].toNat : Int) = false) : varB s = false := decide_eq_false fun ⟨_, _, g⟩ => by rw [g i h] at e; cases e
theorem varB_size {s : ByteArray} (h : s.size < 1 ∨ 16 < s.size) : varB s = false := decide_eq_false fun ⟨_, _, _⟩ => by omega
theorem pgreat_any (r : Int) (w : World) : Calls Tryz.prog 113 #[.int .i32 r] w fun e w' => e = .returned (.bool (greatB r)) ∧ w = w' := by
 by_cases h1 : 65 ≤ r
 ·by_cases h2 : r ≤ 90
  ·have HF : Hid (greatB r = true) := decide_eq_true ⟨h1, h2⟩
   go_enter Tryz.func113, Tryz.ntmps113
   go_wp2
   go_ret
   exact ⟨ret_bool HF.out.symm, rfl⟩
  ·have HF : Hid (greatB r = false) := decide_eq_false (by omega)
   go_enter Tryz.func113, Tryz.ntmps113
   go_wp2
   go_ret
   exact ⟨ret_bool HF.out.symm, rfl⟩
 ·have HF : Hid (greatB r = false) := decide_eq_false (by omega)
  have hd : decide (65 ≤ r) = false := by simpa using h1
  go_enter Tryz.func113, Tryz.ntmps113
  go_wp2
  go_ret
  exact ⟨ret_bool HF.out.symm, rfl⟩
theorem psmall_any (r : Int) (w : World) : Calls Tryz.prog 114 #[.int .i32 r] w fun e w' => e = .returned (.bool (smallB r)) ∧ w = w' := by
 by_cases h1 : 97 ≤ r
 ·by_cases h2 : r ≤ 122
  ·have HF : Hid (smallB r = true) := decide_eq_true ⟨h1, h2⟩
   go_enter Tryz.func114, Tryz.ntmps114
   go_wp2
   go_ret
   exact ⟨ret_bool HF.out.symm, rfl⟩
  ·have HF : Hid (smallB r = false) := decide_eq_false (by omega)
   go_enter Tryz.func114, Tryz.ntmps114
   go_wp2
   go_ret
   exact ⟨ret_bool HF.out.symm, rfl⟩
 ·have HF : Hid (smallB r = false) := decide_eq_false (by omega)
  have hd : decide (97 ≤ r) = false := by simpa using h1
  go_enter Tryz.func114, Tryz.ntmps114
  go_wp2
  go_ret
  exact ⟨ret_bool HF.out.symm, rfl⟩
theorem pdigit_any (r : Int) (w : World) : Calls Tryz.prog 115 #[.int .i32 r] w fun e w' => e = .returned (.bool (digitB r)) ∧ w = w' := by
 by_cases h1 : 48 ≤ r
 ·by_cases h2 : r ≤ 57
  ·have HF : Hid (digitB r = true) := decide_eq_true ⟨h1, h2⟩
   go_enter Tryz.func115, Tryz.ntmps115
   go_wp2
   go_ret
   exact ⟨ret_bool HF.out.symm, rfl⟩
  ·have HF : Hid (digitB r = false) := decide_eq_false (by omega)
   go_enter Tryz.func115, Tryz.ntmps115
   go_wp2
   go_ret
   exact ⟨ret_bool HF.out.symm, rfl⟩
 ·have HF : Hid (digitB r = false) := decide_eq_false (by omega)
  have hd : decide (48 ≤ r) = false := by simpa using h1
  go_enter Tryz.func115, Tryz.ntmps115
  go_wp2
  go_ret
  exact ⟨ret_bool HF.out.symm, rfl⟩
set_option maxRecDepth 100000 in
set_option maxHeartbeats 1000000 in
theorem variable_any (s : ByteArray) (w : World) (hs : s.size ≤ maxLen) :
  Calls Tryz.prog 100 #[.string s] w fun e w' => e = .returned (.bool (varB s)) ∧ Below w.heap.size w w' := by
 unfold maxLen at hs
 by_cases hz : s.size < 1
 ·have HF := Lib.hid (varB_size (s := s) (Or.inl hz))
  go_enter Tryz.func100, Tryz.ntmps100
  go_wp2_with fail
  go_ret
  exact ⟨ret_bool HF.out.symm, Below.refl _ _⟩
 by_cases hz2 : 16 < s.size
 ·have HF := Lib.hid (varB_size (s := s) (Or.inr hz2))
  go_enter Tryz.func100, Tryz.ntmps100
  go_wp2_with fail
  go_ret
  exact ⟨ret_bool HF.out.symm, Below.refl _ _⟩
 have hb1 : decide ((s.size : Int) < 1) = false := by simp; omega
 have hb2 : decide (16 < (s.size : Int)) = false := by simp; omega
 go_enter Tryz.func100, Tryz.ntmps100
 go_wp2_with fail
 go_loopw [2] (fun _ w' => ∃ (pos : Nat), w' = w.iter s pos ∧ pos ≤ s.size ∧ Hid (∀ i (h : i < s.size), i < pos → okVar i (s[i].toNat : Int) = true)) (fun _ w' => s.size - w'.iterPos w.heap.size)
 case atStart => exact ⟨0, rfl, Nat.zero_le _, fun i _ hi => by omega⟩
 case round =>
  obtain ⟨pos, rfl, hpos, hok⟩ := hrel;have hbel : Below w.heap.size w (w.iter s (pos + (Utf8.decode s pos).2)) := (Below.refl _ w).alloc (Nat.le_refl _) _;have hbel0 : Below w.heap.size w (w.iter s pos) := (Below.refl _ w).alloc (Nat.le_refl _) _
  by_cases hp : pos < s.size
  ·have hnx : ∀ ty, (Instr.next (.pointer (some ⟨w.heap.size, 0, none⟩)) true ty).run Tryz.prog (w.iter s pos) = _ := fun ty => run_next_any w s pos ty hp
   have hru := rune_at s pos hp
   have HOK : Hid ((okVar pos ((Utf8.decode s pos).1 : Int) = true → okVar pos (s[pos].toNat : Int) = true ∧ (Utf8.decode s pos).2 = 1) ∧ (okVar pos ((Utf8.decode s pos).1 : Int) = false → okVar pos (s[pos].toNat : Int) = false)) := by
    show _ ∧ _
    rcases hru with ⟨c, hc, he, hcc⟩ | ⟨h1, h2, h3⟩
    ·rw [he, hcc]; exact ⟨fun h => ⟨h, rfl⟩, fun h => h⟩
    ·rw [okVar_high _ _ (by omega : (128 : Int) ≤ ((Utf8.decode s pos).1 : Int)), okVar_high _ _ (by omega : (128 : Int) ≤ (s[pos].toNat : Int))]; exact ⟨(fun h => by cases h), fun h => h⟩
   clear hru;generalize hd : Utf8.decode s pos = d at *;obtain ⟨r, wd⟩ := d;clear hd
   dsimp only at hnx HOK hbel
   cases h0 : greatB (r : Int) with
   | true =>
    have HK : Hid (okVar pos (r : Int) = true) := by show _ = _; simp [okVar, h0]
    go_wp2_with (first | (go_at_call 113; refine (pgreat_any _ _).mono ?_; rintro e w' ⟨rfl, rfl⟩) | (go_at_call 114; refine (psmall_any _ _).mono ?_; rintro e w' ⟨rfl, rfl⟩) | (go_at_call 115; refine (pdigit_any _ _).mono ?_; rintro e w' ⟨rfl, rfl⟩))
    go_roundw
    case rel =>
     obtain ⟨g1, g2⟩ := HOK.out.1 HK.out;refine ⟨pos + wd, rfl, by omega, fun i hi hi2 => ?_⟩
     by_cases e : i = pos
     ·subst e; exact g1
     ·exact hok.out i hi (by omega)
    case measure =>
     obtain ⟨g1, g2⟩ := HOK.out.1 HK.out;simp
     omega
   | false =>
   by_cases h2 : pos = 0
   ·have HK : Hid (okVar pos (r : Int) = false) := by show _ = _; simp [okVar, h0, h2]
    have h2' : ((pos : Int) == 0) = true := by simp [h2]
    clear h2;go_wp2_with (first | (go_at_call 113; refine (pgreat_any _ _).mono ?_; rintro e w' ⟨rfl, rfl⟩) | (go_at_call 114; refine (psmall_any _ _).mono ?_; rintro e w' ⟨rfl, rfl⟩) | (go_at_call 115; refine (pdigit_any _ _).mono ?_; rintro e w' ⟨rfl, rfl⟩))
    go_ret
    exact ⟨ret_bool (varB_false hp (HOK.out.2 HK.out)).symm, hbel⟩
   have h2' : ((pos : Int) == 0) = false := by simp [h2]
   cases h1 : smallB (r : Int) with
   | true =>
    have HK : Hid (okVar pos (r : Int) = true) := by show _ = _; simp [okVar, h1, h2]
    clear h2;go_wp2_with (first | (go_at_call 113; refine (pgreat_any _ _).mono ?_; rintro e w' ⟨rfl, rfl⟩) | (go_at_call 114; refine (psmall_any _ _).mono ?_; rintro e w' ⟨rfl, rfl⟩) | (go_at_call 115; refine (pdigit_any _ _).mono ?_; rintro e w' ⟨rfl, rfl⟩))
    go_roundw
    case rel =>
     obtain ⟨g1, g2⟩ := HOK.out.1 HK.out;refine ⟨pos + wd, rfl, by omega, fun i hi hi2 => ?_⟩
     by_cases e : i = pos
     ·subst e; exact g1
     ·exact hok.out i hi (by omega)
    case measure =>
     obtain ⟨g1, g2⟩ := HOK.out.1 HK.out;simp
     omega
   | false =>
   cases h3 : digitB (r : Int) with
   | true =>
    have HK : Hid (okVar pos (r : Int) = true) := by show _ = _; simp [okVar, h2, h3]
    clear h2;go_wp2_with (first | (go_at_call 113; refine (pgreat_any _ _).mono ?_; rintro e w' ⟨rfl, rfl⟩) | (go_at_call 114; refine (psmall_any _ _).mono ?_; rintro e w' ⟨rfl, rfl⟩) | (go_at_call 115; refine (pdigit_any _ _).mono ?_; rintro e w' ⟨rfl, rfl⟩))
    go_roundw
    case rel =>
     obtain ⟨g1, g2⟩ := HOK.out.1 HK.out;refine ⟨pos + wd, rfl, by omega, fun i hi hi2 => ?_⟩
     by_cases e : i = pos
     ·subst e; exact g1
     ·exact hok.out i hi (by omega)
    case measure =>
     obtain ⟨g1, g2⟩ := HOK.out.1 HK.out;simp
     omega
   | false =>
   by_cases h4 : (r : Int) = 95
   ·have HK : Hid (okVar pos (r : Int) = true) := by show _ = _; simp [okVar, h2, h4]
    have h4' : ((r : Int) != 95) = false := by simp [h4]
    clear h2 h4;go_wp2_with (first | (go_at_call 113; refine (pgreat_any _ _).mono ?_; rintro e w' ⟨rfl, rfl⟩) | (go_at_call 114; refine (psmall_any _ _).mono ?_; rintro e w' ⟨rfl, rfl⟩) | (go_at_call 115; refine (pdigit_any _ _).mono ?_; rintro e w' ⟨rfl, rfl⟩))
    go_roundw
    case rel =>
     obtain ⟨g1, g2⟩ := HOK.out.1 HK.out;refine ⟨pos + wd, rfl, by omega, fun i hi hi2 => ?_⟩
     by_cases e : i = pos
     ·subst e; exact g1
     ·exact hok.out i hi (by omega)
    case measure =>
     obtain ⟨g1, g2⟩ := HOK.out.1 HK.out;simp
     omega
   ·have HK : Hid (okVar pos (r : Int) = false) := by show _ = _; simp [okVar, h0, h1, h3, h4]
    have h4' : ((r : Int) != 95) = true := by simp [h4]
    clear h2 h4;go_wp2_with (first | (go_at_call 113; refine (pgreat_any _ _).mono ?_; rintro e w' ⟨rfl, rfl⟩) | (go_at_call 114; refine (psmall_any _ _).mono ?_; rintro e w' ⟨rfl, rfl⟩) | (go_at_call 115; refine (pdigit_any _ _).mono ?_; rintro e w' ⟨rfl, rfl⟩))
    go_ret
    exact ⟨ret_bool (varB_false hp (HOK.out.2 HK.out)).symm, hbel⟩
  ·have hnx : ∀ ty, (Instr.next (.pointer (some ⟨w.heap.size, 0, none⟩)) true ty).run Tryz.prog (w.iter s pos) = _ := fun ty => run_next_end w s pos ty hp
   have HF := Lib.hid (varB_true (s := s) (by omega) (by omega) (fun i hi => hok.out i hi (by omega)));go_wp2_with fail
   go_ret
   exact ⟨ret_bool HF.out.symm, hbel0⟩
end Go.Proofs.YtjohcnhiblfbnaaGreat
