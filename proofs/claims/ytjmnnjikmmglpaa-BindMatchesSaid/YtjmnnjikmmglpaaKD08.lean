/-
  Right, Takes, BaseCases
-/
import Derived.Test.YtjmnnjikmmglpaaKD07
import Derived.Test.YtjmnnjikmmglpaaKD06
namespace Go.Proofs.Ytjmnnjikmmglpaa
open Go.RowKit
def baseB (k n : Int) (s : ByteArray) (l : List V) (b : Bool) : Bool :=
 if k = 1 then s.toList.isEmpty && l.isEmpty && decide (-2147483647 ≤ n) && decide (n ≤ 2147483647)
 else if k = 2 then (n == 0) && l.isEmpty && textB s
 else if k = 3 then (n == 0) && l.isEmpty && nameB s
 else if k = 4 then (n == 0) && s.toList.isEmpty && b
 else false
def rightV : Nat → V → Bool
 | 0, .mk k n s l => baseB k n s l false
 | d + 1, .mk k n s l => baseB k n s l (decide (l.length ≤ 16) && l.all (rightV d))
def rightL : Nat → List V → Bool
 | 0, _ => false
 | d + 1, l => decide (l.length ≤ 16) && l.all (rightV d)
theorem rightV_mk (d : Nat) (k n : Int) (s : ByteArray) (l : List V) : rightV d (.mk k n s l) = baseB k n s l (rightL d l) := by
 cases d <;> simp [rightV, rightL]
def RightAt (d : Nat) : Prop := ∀ (x : V) (B : Nat) (w : World) (c0 c1 c2 c3 : Value), B ≤ w.heap.size → RepV B w x c0 c1 c2 c3 →
 Calls Try.prog 89 #[.agg #[c0, c1, c2, c3], .int .i64 d] w fun e w' => e = .returned (.bool (rightV d x)) ∧ Below w.heap.size w w'
def RightListAt (d : Nat) : Prop := ∀ (l : List V) (B : Nat) (w : World) (a : Value), B ≤ w.heap.size → RepL B w l a →
 Calls Try.prog 96 #[a, .int .i64 d] w fun e w' => e = .returned (.bool (rightL d l)) ∧ Below w.heap.size w w'
theorem rightL_none {l : List V} (d : Nat) (h : 16 < l.length) : rightL d l = false := by
 cases d with
 | zero => rfl
 | succ d => simp only [rightL, Bool.and_eq_false_iff, decide_eq_false_iff_not]; omega
set_option maxRecDepth 100000 in
set_option maxHeartbeats 1000000 in
theorem rightList_of (d : Nat) (hd : d ≤ 100) (hR : ∀ d', d = d' + 1 → RightAt d') : RightListAt d := by
 intro l B w a hB ha;obtain ⟨aa, ab, ao, ac, rfl, hal, hac, haa, hab, hax⟩ := ha;have HAX := Lib.hid hax; clear hax
 have HAA := Lib.hid haa; clear haa
 match d, hd, hR with
 | 0, _, _ =>
  go_enter Try.func96, Try.ntmps96
  go_wp2_with fail
  go_ret
  exact ⟨rfl, Below.refl _ _⟩
 | d + 1, hd, hR =>
 have HR := Lib.hid (hR d rfl); clear hR
 rw [show (((d + 1 : Nat)) : Int) = (d : Int) + 1 from by omega];have hd1 : decide ((d : Int) + 1 < 1) = false := by simp; omega
 by_cases hz : 16 < l.length
 ·have HF := Lib.hid (rightL_none (d + 1) hz)
  have hz' : decide (16 < (l.length : Int)) = true := by simp; omega
  go_enter Try.func96, Try.ntmps96
  go_wp2_with fail
  go_ret
  exact ⟨ret_bool HF.out.symm, Below.refl _ _⟩
 have hz' : decide (16 < (l.length : Int)) = false := by simp; omega
 go_enter Try.func96, Try.ntmps96
 go_wp2_with fail
 go_loopw [16] (fun i wr => ∃ k : Nat, k ≤ l.length ∧ i = .int .i64 k ∧ Hid ((l.take k).all (rightV d) = true) ∧ Below w.heap.size w wr) (fun i _ => l.length - (intOf i).toNat)
 case atStart => exact ⟨0, Nat.zero_le _, rfl, by show _ = _; simp, Below.refl _ _⟩
 case round =>
  obtain ⟨k, hk1, rfl, hrec, hbel⟩ := hrel
  by_cases hl : k < l.length
  ·obtain ⟨x0, x1, x2, x3, g0, g1, g2, g3, gr⟩ := HAX.out k hl
   have hab' : ab < B := hab (by omega);obtain rfl := HAA.out (by omega);rw [← hbel.cell (by simp; omega)] at g0 g1 g2 g3;have hs := hbel.size;obtain ⟨fa, fc, rfl, rfl, rfl, rfl⟩ := gr.form;go_wp2_with fail
   have hb2 : Below w.heap.size w (wr.alloc (.cells #[.int .i64 l[k].kind, .int .i64 l[k].num, .string l[k].text, .slice fa l[k].list.length fc] 28)) := hbel.alloc hs _;refine (HR.out l[k] B _ _ _ _ _ (by simp; omega) (RepV.below (fun j hj => hb2.block j (by omega)) _ gr)).mono ?_;rintro e w3 ⟨rfl, hbel3⟩;have hbel4 : Below w.heap.size w w3 := hb2.trans (hbel3.mono (by simp; omega));have hts : l.take (k + 1) = l.take k ++ [l[k]] := by rw [List.take_succ_eq_append_getElem hl]
   have HTS := Lib.hid hts; clear hts
   clear hbel3 hb2 g0 g1 g2 g3
   cases hc : rightV d l[k] with
   | true =>
    have HCZ := Lib.hid hc; clear hc
    go_wp2_with fail
    go_roundw
    case rel => exact ⟨k + 1, by omega, by go_num, by show _ = _; rw [HTS.out, List.all_append, hrec.out]; simp [HCZ.out], hbel4⟩
    case measure => simp [intOf]; omega
   | false =>
    have HCZ := Lib.hid hc; clear hc
    go_wp2_with fail
    go_ret
    refine ⟨ret_bool ?_, hbel4⟩
    symm
    simp only [rightL, Bool.and_eq_false_iff]
    refine Or.inr ?_;rw [List.all_eq_false];exact ⟨_, List.getElem_mem hl, by simp [HCZ.out]⟩
  ·have HF : Hid (rightL (d + 1) l = true) := by
    have h1 := hrec.out;rw [List.take_of_length_le (by omega)] at h1
    show _ = _
    simp only [rightL, h1, Bool.and_true, decide_eq_true_eq]
    omega
   go_wp2_with fail
   go_ret
   exact ⟨ret_bool HF.out.symm, hbel⟩
theorem isEmpty_size (s : ByteArray) : s.toList.isEmpty = true ↔ s.size = 0 := by
 rw [List.isEmpty_iff_length_eq_zero]; simp [Lib.toList_data]
set_option maxRecDepth 100000 in
set_option maxHeartbeats 1000000 in
theorem right_of (d : Nat) (_hd : d ≤ 100) (hL : RightListAt d) : RightAt d := by
 intro x B w c0 c1 c2 c3 hB hx
 cases x with
 | mk k n s l =>
 rw [rightV_mk];rw [repV_mk] at hx;obtain ⟨rfl, rfl, rfl, hk, hn, hs, hl⟩ := hx;have hl' := hl;obtain ⟨aa, ab, ao, ac, rfl, hlac, hac, -⟩ := hl';have HL := Lib.hid hl; clear hl
 have HLL := Lib.hid hL; clear hL
 have hle : l.isEmpty = decide (l.length = 0) := by cases l <;> simp
 generalize hlen : l.length = len at *;have HE := Lib.hid hle; clear hle hlen
 have hbb : Below w.heap.size w (w.alloc (.cells #[.int .i64 k, .int .i64 n, .string s, .slice aa len ac] 28)) :=
  ((Below.refl _ w).alloc (Nat.le_refl _) _)
 by_cases e1 : k = 1
 ·subst e1
  go_enter Try.func89, Try.ntmps89
  go_wp2_with fail
  all_goals
   go_ret
   refine ⟨ret_bool ?_, (Below.refl _ w).alloc (Nat.le_refl _) _⟩;simp [baseB, HE.out, *] <;> omega
 by_cases e2 : k = 2
 ·subst e2
  by_cases hn0 : n = 0
  ·subst hn0
   by_cases hz : len = 0
   ·subst hz
    go_enter Try.func89, Try.ntmps89
    go_wp2_with fail
    refine (rightText_any _ _ hs).mono ?_;rintro e w' ⟨rfl, hb⟩;go_wp2_with fail
    go_ret
    exact ⟨ret_bool (by simp [baseB, HE.out]), hbb.trans (hb.mono (by simp))⟩
   ·have hz' : ((len : Int) == 0) = false := by simp [hz]
    have HB : Hid (baseB 2 0 s l (rightL d l) = false) := by show _ = _; simp [baseB, HE.out, hz]
    clear hz;go_enter Try.func89, Try.ntmps89
    go_wp2_with fail
    go_ret
    exact ⟨ret_bool HB.out.symm, hbb⟩
  ·have hn' : (n == 0) = false := by simp [hn0]
   have HB : Hid (baseB 2 n s l (rightL d l) = false) := by show _ = _; simp [baseB, hn0]
   clear hn0;go_enter Try.func89, Try.ntmps89
   go_wp2_with fail
   go_ret
   exact ⟨ret_bool HB.out.symm, hbb⟩
 by_cases e3 : k = 3
 ·subst e3
  by_cases hn0 : n = 0
  ·subst hn0
   by_cases hz : len = 0
   ·subst hz
    go_enter Try.func89, Try.ntmps89
    go_wp2_with fail
    refine (name_any _ _ hs).mono ?_;rintro e w' ⟨rfl, hb⟩;go_wp2_with fail
    go_ret
    exact ⟨ret_bool (by simp [baseB, HE.out]), hbb.trans (hb.mono (by simp))⟩
   ·have hz' : ((len : Int) == 0) = false := by simp [hz]
    have HB : Hid (baseB 3 0 s l (rightL d l) = false) := by show _ = _; simp [baseB, HE.out, hz]
    clear hz;go_enter Try.func89, Try.ntmps89
    go_wp2_with fail
    go_ret
    exact ⟨ret_bool HB.out.symm, hbb⟩
  ·have hn' : (n == 0) = false := by simp [hn0]
   have HB : Hid (baseB 3 n s l (rightL d l) = false) := by show _ = _; simp [baseB, hn0]
   clear hn0;go_enter Try.func89, Try.ntmps89
   go_wp2_with fail
   go_ret
   exact ⟨ret_bool HB.out.symm, hbb⟩
 by_cases e4 : k = 4
 ·subst e4
  by_cases hn0 : n = 0
  ·subst hn0
   by_cases hz : s.toList = []
   ·have HZ := Lib.hid hz
    have hz1 : (!s.toList.isEmpty) = false := by simp [hz]
    go_enter Try.func89, Try.ntmps89
    go_wp2_with fail
    refine (HLL.out l B _ _ (by simp; omega) (RepL.below (fun j hj => hbb.block j (by omega)) HL.out)).mono ?_;rintro e w' ⟨rfl, hb⟩;go_wp2_with fail
    go_ret
    exact ⟨ret_bool (by simp [baseB, HZ.out]), hbb.trans (hb.mono (by simp))⟩
   ·have hz1 : s.toList.isEmpty = false := by simpa using hz
    have HB : Hid (baseB 4 0 s l (rightL d l) = false) := by show _ = _; simp [baseB, hz]
    go_enter Try.func89, Try.ntmps89
    go_wp2_with fail
    go_ret
    exact ⟨ret_bool HB.out.symm, hbb⟩
  ·have hn' : (n == 0) = false := by simp [hn0]
   have HB : Hid (baseB 4 n s l (rightL d l) = false) := by show _ = _; simp [baseB, hn0]
   clear hn0;go_enter Try.func89, Try.ntmps89
   go_wp2_with fail
   go_ret
   exact ⟨ret_bool HB.out.symm, hbb⟩
 ·have f1 : (k == 1) = false := by simp [e1]
  have f2 : (k == 2) = false := by simp [e2]
  have f3 : (k == 3) = false := by simp [e3]
  have f4 : (k == 4) = false := by simp [e4]
  have HB : Hid (baseB k n s l (rightL d l) = false) := by show _ = _; simp [baseB, e1, e2, e3, e4]
  clear e1 e2 e3 e4;go_enter Try.func89, Try.ntmps89
  go_wp2_with fail
  go_ret
  exact ⟨ret_bool HB.out.symm, hbb⟩
theorem rightWithin_any : ∀ d : Nat, d ≤ 100 → RightAt d
  | 0, h => right_of 0 h (rightList_of 0 h (fun d' e => by omega))
  | d + 1, h => right_of (d + 1) h (rightList_of (d + 1) h (fun d' e => by obtain rfl : d = d' := by omega
                                                                           exact rightWithin_any d (by omega)))
set_option maxRecDepth 100000 in
set_option maxHeartbeats 1000000 in
theorem right_any (x : V) (B : Nat) (w : World) (c0 c1 c2 c3 : Value) (hB : B ≤ w.heap.size) (hx : RepV B w x c0 c1 c2 c3) :
  Calls Try.prog 76 #[.agg #[c0, c1, c2, c3]] w fun e w' => e = .returned (.bool (rightV 4 x)) ∧ Below w.heap.size w w' := by
 have HR := Lib.hid (rightWithin_any 4 (by omega));obtain ⟨fa, fc, rfl, rfl, rfl, rfl⟩ := hx.form;have HX := Lib.hid hx; clear hx
 go_enter Try.func76, Try.ntmps76
 go_wp2_with fail
 have hbb : Below w.heap.size w (w.alloc (.cells #[.int .i64 x.kind, .int .i64 x.num, .string x.text, .slice fa x.list.length fc] 28)) :=
  ((Below.refl _ w).alloc (Nat.le_refl _) _)
 refine (HR.out x B _ _ _ _ _ (by simp; omega) (RepV.below (fun j hj => hbb.block j (by omega)) _ HX.out)).mono ?_;rintro e w' ⟨rfl, hb⟩;go_wp2_with fail
 go_ret
 exact ⟨rfl, hbb.trans (hb.mono (by simp))⟩
end Go.Proofs.Ytjmnnjikmmglpaa
namespace Go.Proofs.Ytjmnnjikmmglpaa
open Go.RowKit
def argB (l : Bool) (x : V) : Bool := rightV 4 x && (!l || (x.kind == 4))
theorem argB_wrong {l : Bool} {x : V} (h : rightV 4 x = false) : argB l x = false := by rw [argB, h]; rfl
theorem argB_any {x : V} (h : rightV 4 x = true) : argB false x = true := by rw [argB, h]; rfl
theorem argB_list {x : V} (h : rightV 4 x = true) : argB true x = (x.kind == 4) := by rw [argB, h]; simp
theorem retBool {a b : Bool} (h : a = b) : Ending.returned (.bool a) = .returned (.bool b) := by rw [h]
set_option maxRecDepth 100000 in
set_option maxHeartbeats 2000000 in
theorem takes_not (ar : Int) (l0 l1 : Bool) (k : Nat) (w : World) (a : Option Addr) (n cap : Nat) (h : ((n : Int) != ar) = true) :
  Calls Try.prog 75 #[.agg #[.int .i64 ar, .bool l0, .bool l1, fnDo k], .slice a n cap] w fun e w' => e = .returned (.bool false) ∧ Below w.heap.size w w' := by
 generalize fnDo k = d;go_enter Try.func75, Try.ntmps75
 go_wp2_with fail
 go_ret
 exact ⟨rfl, (Below.refl _ _).alloc (Nat.le_refl _) _⟩
set_option maxRecDepth 100000 in
set_option maxHeartbeats 2000000 in
theorem takes_one (l0 l1 : Bool) (k : Nat) (x : V) (B : Nat) (w : World) (a : Value) (hB : B ≤ w.heap.size) (ha : RepL B w [x] a) :
  Calls Try.prog 75 #[.agg #[.int .i64 1, .bool l0, .bool l1, fnDo k], a] w fun e w' => e = .returned (.bool (argB l0 x)) ∧ Below w.heap.size w w' := by
 generalize fnDo k = d;have hb1 : Below w.heap.size w (w.alloc (.cells #[.int .i64 1, .bool l0, .bool l1, d] 95)) := (Below.refl _ w).alloc (Nat.le_refl _) _;have HF := Lib.hid (alloc_new' w (.cells #[.int .i64 1, .bool l0, .bool l1, d] 95));have HB1 := Lib.hid hb1;obtain ⟨aa, ab, ao, ac, rfl, hac, -⟩ := id ha;obtain ⟨-, -, b, o, fa, fc, rfl, hSb, g0, g1, g2, g3, g⟩ := RepLG.at (RepL.below (w' := w.alloc (.cells #[.int .i64 1, .bool l0, .bool l1, d] 95)) (fun j hj => hb1.block j (by omega)) ha) 0 (by simp);simp only [List.getElem_cons_zero, Nat.zero_mul, Nat.add_zero, List.length_cons, List.length_nil, Nat.zero_add] at g0 g1 g2 g3 g hac ⊢
 have HG := Lib.hid g;have hs1 := World.size_alloc w (.cells #[.int .i64 1, .bool l0, .bool l1, d] 95);have HS1 := Lib.hid hs1;clear ha hb1 g hs1;go_enter Try.func75, Try.ntmps75
 go_wp2_with fail
 generalize w.alloc (.cells #[.int .i64 1, .bool l0, .bool l1, d] 95) = w1 at *;refine wp_loop_rounds 2 ?_;rw [rounds_succ];go_wp2_with fail
 have Z := boxed_new w1 (.int .i64 x.kind) (.int .i64 x.num) (.string x.text) (.slice fa x.list.length fc);have b2 := (Below.refl _ w1).alloc (Nat.le_refl _) (.cells #[.int .i64 x.kind, .int .i64 x.num, .string x.text, .slice fa x.list.length fc] 28);generalize w1.alloc (.cells #[.int .i64 x.kind, .int .i64 x.num, .string x.text, .slice fa x.list.length fc] 28) = w2 at *;have hs2 := b2.size;refine (right_any x B w2 _ _ _ _ (by have := HS1.out; omega) (HG.out.on (fun _ h => h) (fun j hj => b2.block j (by have := HS1.out; omega)))).mono ?_;rintro e w3 ⟨rfl, hb3⟩;have HB3 := Lib.hid (Below.trans HB1.out ((Below.step b2 hb3).mono (by have := HS1.out; omega)));have hf := ((Below.step b2 hb3).block w.heap.size (by have := HS1.out; omega)).trans HF.out;have f1 := cell_of_block' (i := 1) hf _ rfl;have z0 := (Z.on hb3).cells.1;clear Z b2 hb3 hf g0 g1 g2 g3
 cases hr : rightV 4 x with
 | false =>
  have HR := Lib.hid (argB_wrong (l := l0) hr);clear hr;go_wp2_with fail
  go_ret
  exact ⟨retBool HR.out.symm, HB3.out⟩
 | true =>
  cases l0 with
  | false =>
   have HR := Lib.hid (argB_any hr);clear hr;go_wp2_with fail
   rw [rounds_succ];go_wp2_with fail
   go_ret
   exact ⟨retBool HR.out.symm, HB3.out⟩
  | true =>
   have HR := Lib.hid (argB_list hr);clear hr
   cases hk : (x.kind == 4) with
   | false =>
    have HK := Lib.hid hk;have hk2 : (x.kind != 4) = true := by simpa using hk
    clear hk;go_wp2_with fail
    go_ret
    exact ⟨retBool (HR.out.trans HK.out).symm, HB3.out⟩
   | true =>
    have HK := Lib.hid hk;have hk2 : (x.kind != 4) = false := by simpa using hk
    clear hk;go_wp2_with fail
    rw [rounds_succ];go_wp2_with fail
    go_ret
    exact ⟨retBool (HR.out.trans HK.out).symm, HB3.out⟩
set_option maxRecDepth 100000 in
set_option maxHeartbeats 4000000 in
theorem takes_two (l0 l1 : Bool) (k : Nat) (x y : V) (B : Nat) (w : World) (a : Value) (hB : B ≤ w.heap.size) (ha : RepL B w [x, y] a) :
  Calls Try.prog 75 #[.agg #[.int .i64 2, .bool l0, .bool l1, fnDo k], a] w fun e w' => e = .returned (.bool (argB l0 x && argB l1 y)) ∧ Below w.heap.size w w' := by
 generalize fnDo k = d;have hb1 : Below w.heap.size w (w.alloc (.cells #[.int .i64 2, .bool l0, .bool l1, d] 95)) := (Below.refl _ w).alloc (Nat.le_refl _) _;have HF := Lib.hid (alloc_new' w (.cells #[.int .i64 2, .bool l0, .bool l1, d] 95));have HB1 := Lib.hid hb1;obtain ⟨aa, ab, ao, ac, rfl, hac, -⟩ := id ha;have ha1 : RepL B (w.alloc (.cells #[.int .i64 2, .bool l0, .bool l1, d] 95)) [x, y] (.slice aa [x, y].length ac) := RepL.below (fun j hj => hb1.block j (by omega)) ha;obtain ⟨-, -, b, o, fa, fc, rfl, hSb, g0, g1, g2, g3, g⟩ := RepLG.at ha1 0 (by simp);obtain ⟨-, -, b', o', fa', fc', e', -, e0, e1, e2, e3, g'⟩ := RepLG.at ha1 1 (by simp)
 cases e'
 simp only [List.getElem_cons_zero, List.getElem_cons_succ, Nat.zero_mul, Nat.one_mul, Nat.add_zero, List.length_cons, List.length_nil, Nat.zero_add, Nat.reduceAdd] at g0 g1 g2 g3 g e0 e1 e2 e3 g' hac ⊢
 have HG := Lib.hid g; have HG' := Lib.hid g'
 have E0 := Lib.hid e0; have E1 := Lib.hid e1; have E2 := Lib.hid e2; have E3 := Lib.hid e3
 have hs1 := World.size_alloc w (.cells #[.int .i64 2, .bool l0, .bool l1, d] 95);have HS1 := Lib.hid hs1;clear ha ha1 hb1 g g' hs1 e0 e1 e2 e3;go_enter Try.func75, Try.ntmps75
 go_wp2_with fail
 generalize w.alloc (.cells #[.int .i64 2, .bool l0, .bool l1, d] 95) = w1 at *;refine wp_loop_rounds 3 ?_;rw [rounds_succ];go_wp2_with fail
 have Z := boxed_new w1 (.int .i64 x.kind) (.int .i64 x.num) (.string x.text) (.slice fa x.list.length fc);have b2 := (Below.refl _ w1).alloc (Nat.le_refl _) (.cells #[.int .i64 x.kind, .int .i64 x.num, .string x.text, .slice fa x.list.length fc] 28);generalize w1.alloc (.cells #[.int .i64 x.kind, .int .i64 x.num, .string x.text, .slice fa x.list.length fc] 28) = w2 at *;have hs2 := b2.size;refine (right_any x B w2 _ _ _ _ (by have := HS1.out; omega) (HG.out.on (fun _ h => h) (fun j hj => b2.block j (by have := HS1.out; omega)))).mono ?_;rintro e w3 ⟨rfl, hb3⟩;have HW3 := Lib.hid (Below.step b2 hb3);have HB3 := Lib.hid (Below.trans HB1.out (HW3.out.mono (by have := HS1.out; omega)));have hf := (HW3.out.block w.heap.size (by have := HS1.out; omega)).trans HF.out;have f1 := cell_of_block' (i := 1) hf _ rfl;have z0 := (Z.on hb3).cells.1;have e0 := (HW3.out.cell (p := ⟨b, o + 4, none⟩) (by have := HS1.out; simp; omega)).trans E0.out;have e1 := (HW3.out.cell (p := ⟨b, o + 4 + 1, none⟩) (by have := HS1.out; simp; omega)).trans E1.out;have e2 := (HW3.out.cell (p := ⟨b, o + 4 + 2, none⟩) (by have := HS1.out; simp; omega)).trans E2.out;have e3 := (HW3.out.cell (p := ⟨b, o + 4 + 3, none⟩) (by have := HS1.out; simp; omega)).trans E3.out;have hs3 := HW3.out.size;clear Z b2 hb3 hf g0 g1 g2 g3
 -- what the second argument brings
 cases hr : argB l0 x with
 | false =>
  have hcase : rightV 4 x = false ∨ (rightV 4 x = true ∧ l0 = true ∧ (x.kind == 4) = false) := by
   cases h1 : rightV 4 x with
   | false => exact .inl rfl
   | true =>
    cases l0 with
    | false => rw [argB_any h1] at hr; cases hr
    | true => rw [argB_list h1] at hr; exact .inr ⟨rfl, rfl, hr⟩
  have HA := Lib.hid hr;clear hr;rcases hcase with h1 | ⟨h1, rfl, h2⟩
  ·rw [h1]
   clear h1;go_wp2_with fail
   go_ret
   exact ⟨retBool (by rw [HA.out]; rfl), HB3.out⟩
  ·rw [h1]
   have hk2 : (x.kind != 4) = true := by simpa using h2
   clear h1 h2;go_wp2_with fail
   go_ret
   exact ⟨retBool (by rw [HA.out]; rfl), HB3.out⟩
 | true =>
  have hcase : rightV 4 x = true ∧ (l0 = false ∨ (l0 = true ∧ (x.kind != 4) = false)) := by
   cases h1 : rightV 4 x with
   | false => rw [argB_wrong h1] at hr; cases hr
   | true =>
    cases l0 with
    | false => exact ⟨rfl, .inl rfl⟩
    | true => rw [argB_list h1] at hr; exact ⟨rfl, .inr ⟨rfl, by simpa using hr⟩⟩
  have HA := Lib.hid hr;clear hr;obtain ⟨h1, hc⟩ := hcase;rw [h1];clear h1;rcases hc with rfl | ⟨rfl, h2⟩
  all_goals
   go_wp2_with fail
   rw [rounds_succ];go_wp2_with fail
   have Z := boxed_new w3 (.int .i64 y.kind) (.int .i64 y.num) (.string y.text) (.slice fa' y.list.length fc');have b4 := (Below.refl _ w3).alloc (Nat.le_refl _) (.cells #[.int .i64 y.kind, .int .i64 y.num, .string y.text, .slice fa' y.list.length fc'] 28);generalize w3.alloc (.cells #[.int .i64 y.kind, .int .i64 y.num, .string y.text, .slice fa' y.list.length fc'] 28) = w4 at *;have hs4 := b4.size;refine (right_any y B w4 _ _ _ _ (by have := HS1.out; omega) (HG'.out.on (fun _ h => h) (fun j hj => (Below.step HW3.out b4).block j (by have := HS1.out; omega)))).mono ?_;rintro e w5 ⟨rfl, hb5⟩;have HB5 := Lib.hid (Below.trans HB3.out ((Below.step b4 hb5).mono (by have := HS1.out; omega)));have hf := ((Below.step HW3.out (Below.step b4 hb5)).block w.heap.size (by have := HS1.out; omega)).trans HF.out;have f2 := cell_of_block' (i := 2) hf _ rfl;have y0 := (Z.on hb5).cells.1;clear Z b4 hb5 hf e0 e1 e2 e3 z0 f1
   cases hr : rightV 4 y with
   | false =>
    have HR := Lib.hid (argB_wrong (l := l1) hr);clear hr;go_wp2_with fail
    go_ret
    exact ⟨retBool (by rw [HA.out, HR.out]; rfl), HB5.out⟩
   | true =>
    cases l1 with
    | false =>
     have HR := Lib.hid (argB_any hr);clear hr;go_wp2_with fail
     rw [rounds_succ];go_wp2_with fail
     go_ret
     exact ⟨retBool (by rw [HA.out, HR.out]; rfl), HB5.out⟩
    | true =>
     have HR := Lib.hid (argB_list hr);clear hr
     cases hk : (y.kind == 4) with
     | false =>
      have HK := Lib.hid hk;have hk2 : (y.kind != 4) = true := by simpa using hk
      clear hk;go_wp2_with fail
      go_ret
      exact ⟨retBool (by rw [HA.out, HR.out, HK.out]; rfl), HB5.out⟩
     | true =>
      have HK := Lib.hid hk;have hk2 : (y.kind != 4) = false := by simpa using hk
      clear hk;go_wp2_with fail
      rw [rounds_succ];go_wp2_with fail
      go_ret
      exact ⟨retBool (by rw [HA.out, HR.out, HK.out]; rfl), HB5.out⟩
end Go.Proofs.Ytjmnnjikmmglpaa
namespace Go.Proofs.Ytjmnnjikmmglpaa
open Go.RowKit
theorem baseB_cases {k n : Int} {s : ByteArray} {l : List V} {b : Bool} (h : baseB k n s l b = true) :
  (k = 1 ∧ s.toList.isEmpty = true ∧ l = [] ∧ -2147483647 ≤ n ∧ n ≤ 2147483647) ∨ (k = 2 ∧ n = 0 ∧ l = [] ∧ textB s = true) ∨ (k = 3 ∧ n = 0 ∧ l = [] ∧ nameB s = true) ∨ (k = 4 ∧ n = 0 ∧ s.toList.isEmpty = true ∧ b = true) := by
 unfold baseB at h
 split at h
 ·simp at h; simp_all
 ·split at h
  ·simp at h; simp_all
  ·split at h
   ·simp at h; simp_all
   ·split at h
    ·simp at h; simp_all
    ·cases h
end Go.Proofs.Ytjmnnjikmmglpaa
