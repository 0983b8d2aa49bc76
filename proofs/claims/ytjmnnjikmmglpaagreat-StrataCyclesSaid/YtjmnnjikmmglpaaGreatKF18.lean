/-
  PrWithin
-/
import Derived.Test.YtjmnnjikmmglpaaGreatKF17
import Derived.Test.YtjmnnjikmmglpaaGreatKF01
import Derived.Test.YtjmnnjikmmglpaaGreatKF03
import Derived.Test.YtjmnnjikmmglpaaGreatKF14
import Derived.Test.YtjmnnjikmmglpaaGreatKF05
import Derived.Deep.RegionHeld3
namespace Go.Proofs.YtjmnnjikmmglpaaGreat
open Go.RowKit
def RightTmAt (d : Nat) : Prop := ∀ (t : Tm) (S : Nat → Prop) (w : World) (c0 c1 c2 c3 c4 c5 c6 : Value), (∀ k, S k → k < w.heap.size) → RepM S w t c0 c1 c2 c3 c4 c5 c6 →
 Calls Tryz.prog 164 #[.agg #[c0, c1, c2, c3, c4, c5, c6], .int .i64 d] w fun e w' => e = .returned (.bool (rightM d t)) ∧ Below w.heap.size w w'
set_option maxRecDepth 100000 in
set_option maxHeartbeats 1000000 in
theorem parts_of (d : Nat) (h : RightTmAt d) (l : List Tm) (n : Int) (S : Nat → Prop) (w : World) (a : Value) (hS : ∀ k, S k → k < w.heap.size) (ha : RepMs S w l a) :
  Calls Tryz.prog 186 #[a, .int .i64 n, .int .i64 d] w fun e w' => e = .returned (.bool (listB n n (rightM d) l)) ∧ Below w.heap.size w w' := by
 have HA := Lib.hid ha; have HH := Lib.hid h
 obtain ⟨aa, cap, rfl⟩ := SlG.form ha;clear ha h;go_enter Tryz.func186, Tryz.ntmps186
 go_wp2_with fail
 have b1 := below_alloc w (.cells #[.int .i64 d] 3);have n1 := alloc_new' w (.cells #[.int .i64 d] 3);have s1 := World.size_alloc w (.cells #[.int .i64 d] 3);generalize w.alloc (.cells #[.int .i64 d] 3) = w1 at *;have B1 := Lib.hid b1; have N1 := Lib.hid n1; have S1 := Lib.hid s1
 clear b1 n1 s1;refine (rl_parts l n n (rightM d) _ S w1 _ (fun k hk => Nat.lt_of_lt_of_le (hS k hk) B1.out.size) (RepMs.on (fun _ h => h) (fun k hk => B1.out.block k (hS k hk)) HA.out) ?_).mono ?_
 ·intro wr hb x hx fa fc ga gc hr
  have HB := Lib.hid hb; have HR := Lib.hid hr
  have hq : wr.cell? ⟨w.heap.size, 0, none⟩ = some (.int .i64 d) := cell_of_block' ((hb.block w.heap.size (by have := S1.out; omega)).trans N1.out) _ rfl;have b2 := below_alloc wr (.cells #[.int .i64 x.kind, .string x.name, .int .i64 x.val.kind, .int .i64 x.val.num, .string x.val.text, .slice fa x.val.list.length fc, .slice ga x.args.length gc] 68);have hq2 := (b2.cell (p := ⟨w.heap.size, 0, none⟩) (by have := hb.size; have := S1.out; simp; omega)).trans hq;have B2 := Lib.hid b2;clear hb hr b2;go_enter Tryz.func206, Tryz.ntmps206
  go_wp2_with fail
  refine (HH.out x S _ _ _ _ _ _ _ _ (fun k hk => Nat.lt_of_lt_of_le (Nat.lt_of_lt_of_le (hS k hk) (Nat.le_trans B1.out.size HB.out.size)) B2.out.size) (RepM.on (fun _ h => h) (fun k hk => B2.out.block k (Nat.lt_of_lt_of_le (hS k hk) (Nat.le_trans B1.out.size HB.out.size))) x HR.out)).mono ?_;rintro e w3 ⟨rfl, hb3⟩;go_wp2_with fail
  go_ret
  exact ⟨rfl, Below.step B2.out hb3⟩
 ·rintro e w2 ⟨rfl, hb2⟩
  go_wp2_with fail
  go_ret
  exact ⟨rfl, Below.step B1.out hb2⟩
set_option maxRecDepth 100000 in
set_option maxHeartbeats 4000000 in
theorem within_zero : RightTmAt 0 := by
 intro t S w c0 c1 c2 c3 c4 c5 c6 hS ht;obtain ⟨fa, fc, ga, gc, rfl, rfl, rfl, rfl, rfl, rfl, rfl⟩ := ht.form;have HF := Lib.hid (rightM_zero t);go_enter Tryz.func164, Tryz.ntmps164
 go_wp2_with fail
 have x1 := boxM_new w (.int .i64 t.kind) (.string t.name) (.int .i64 t.val.kind) (.int .i64 t.val.num) (.string t.val.text) (.slice fa t.val.list.length fc) (.slice ga t.args.length gc);have b1 := below_alloc w (.cells #[.int .i64 t.kind, .string t.name, .int .i64 t.val.kind, .int .i64 t.val.num, .string t.val.text, .slice fa t.val.list.length fc, .slice ga t.args.length gc] 68);generalize w.alloc (.cells #[.int .i64 t.kind, .string t.name, .int .i64 t.val.kind, .int .i64 t.val.num, .string t.val.text, .slice fa t.val.list.length fc, .slice ga t.args.length gc] 68) = w1 at *;have X1 := Lib.hid x1; have B1 := Lib.hid b1
 clear x1 b1;obtain ⟨p0, p1, p2, p3, p4, p5, p6⟩ := X1.out.cells;go_ret
 exact ⟨ret_bool HF.out.symm, B1.out⟩
set_option maxRecDepth 100000 in
set_option maxHeartbeats 4000000 in
theorem within_succ (d : Nat) (hd : d ≤ 100) (h : RightTmAt d) : RightTmAt (d + 1) := by
 intro t S w c0 c1 c2 c3 c4 c5 c6 hS ht;have HV := Lib.hid ht.value; have HL := Lib.hid ht.lst; have HH := Lib.hid h
 have HNS := Lib.hid ht.bounds.2;obtain ⟨fa, fc, ga, gc, rfl, rfl, rfl, rfl, rfl, rfl, rfl⟩ := ht.form
 have HF0 : Hid (rightM (d + 1) t = if t.kind = 1 then varB t.name && (noneB t.val && t.args.isEmpty)
  else if t.kind = 2 then t.name.toList.isEmpty && (valB t.val && t.args.isEmpty)
  else if t.kind = 3 then noneB t.val && listB (fnArity (fnOf t.name)) (fnArity (fnOf t.name)) (rightM d) t.args
  else if t.kind = 4 then opB t.name && (noneB t.val && listB 2 2 (rightM d) t.args)
  else false) := by cases t; exact rightM_succ _ _ _ _ _
 clear ht h;rw [show (((d + 1 : Nat)) : Int) = (d : Int) + 1 from by omega];have hd1 : decide ((d : Int) + 1 < 1) = false := by simp; omega
 have hd2 : (d : Int) + 1 - 1 = d := by omega
 have hd3 : IntKind.i64.wrap (d : Int) = d := by rw [IntKind.wrap_i64]; omega
 have hie := isEmpty_len t.args
 by_cases e1 : t.kind = 1
 ·have HF1 : Hid (rightM (d + 1) t = (varB t.name && (noneB t.val && t.args.isEmpty))) := by show _ = _; rw [HF0.out, if_pos e1]
  have k1 : (t.kind == 1) = true := by simp [e1]
  clear HF0 e1
  cases h1 : varB t.name with
  | false =>
   have HF : Hid (rightM (d + 1) t = false) := by show _ = _; rw [HF1.out, h1, Bool.false_and]
   have H1 := Lib.hid h1; clear h1 HF1 hie
   go_enter Tryz.func164, Tryz.ntmps164
   go_wp2_with fail
   have x1 := boxM_new w (.int .i64 t.kind) (.string t.name) (.int .i64 t.val.kind) (.int .i64 t.val.num) (.string t.val.text) (.slice fa t.val.list.length fc) (.slice ga t.args.length gc);have b1 := below_alloc w (.cells #[.int .i64 t.kind, .string t.name, .int .i64 t.val.kind, .int .i64 t.val.num, .string t.val.text, .slice fa t.val.list.length fc, .slice ga t.args.length gc] 68);generalize w.alloc (.cells #[.int .i64 t.kind, .string t.name, .int .i64 t.val.kind, .int .i64 t.val.num, .string t.val.text, .slice fa t.val.list.length fc, .slice ga t.args.length gc] 68) = w1 at *;have X1 := Lib.hid x1; have B1 := Lib.hid b1
   clear x1 b1;obtain ⟨p0, p1, p2, p3, p4, p5, p6⟩ := X1.out.cells;refine (variable_any t.name _ HNS.out).mono ?_;rw [H1.out];rintro e w2 ⟨rfl, hb⟩;have X2 := Lib.hid (X1.out.on hb); have B2 := Lib.hid (Below.step B1.out hb)
   clear hb p0 p1 p2 p3 p4 p5 p6;obtain ⟨p0, p1, p2, p3, p4, p5, p6⟩ := X2.out.cells;go_wp2_with fail
   go_ret
   exact ⟨ret_bool HF.out.symm, B2.out⟩
  | true =>
  cases h2 : noneB t.val with
  | false =>
   have HF : Hid (rightM (d + 1) t = false) := by show _ = _; rw [HF1.out, h1, h2]; rfl
   have H1 := Lib.hid h1; have HN := Lib.hid h2; clear h1 h2 HF1 hie
   go_enter Tryz.func164, Tryz.ntmps164
   go_wp2_with fail
   have x1 := boxM_new w (.int .i64 t.kind) (.string t.name) (.int .i64 t.val.kind) (.int .i64 t.val.num) (.string t.val.text) (.slice fa t.val.list.length fc) (.slice ga t.args.length gc);have b1 := below_alloc w (.cells #[.int .i64 t.kind, .string t.name, .int .i64 t.val.kind, .int .i64 t.val.num, .string t.val.text, .slice fa t.val.list.length fc, .slice ga t.args.length gc] 68);generalize w.alloc (.cells #[.int .i64 t.kind, .string t.name, .int .i64 t.val.kind, .int .i64 t.val.num, .string t.val.text, .slice fa t.val.list.length fc, .slice ga t.args.length gc] 68) = w1 at *;have X1 := Lib.hid x1; have B1 := Lib.hid b1
   clear x1 b1;obtain ⟨p0, p1, p2, p3, p4, p5, p6⟩ := X1.out.cells;refine (variable_any t.name _ HNS.out).mono ?_;rw [H1.out];rintro e w2 ⟨rfl, hb⟩;have X2 := Lib.hid (X1.out.on hb); have B2 := Lib.hid (Below.step B1.out hb)
   clear hb p0 p1 p2 p3 p4 p5 p6;obtain ⟨p0, p1, p2, p3, p4, p5, p6⟩ := X2.out.cells;go_wp2_with fail
   refine (nothing_any t.val S w2 _ _ _ _ (RepG.on (fun _ h => h) (fun k hk => B2.out.block k (hS k hk)) t.val HV.out)).mono ?_;rw [HN.out];rintro e w3 ⟨rfl, hb⟩;have X3 := Lib.hid (X2.out.on hb); have B3 := Lib.hid (Below.step B2.out hb)
   clear hb p0 p1 p2 p3 p4 p5 p6;obtain ⟨p0, p1, p2, p3, p4, p5, p6⟩ := X3.out.cells;go_wp2_with fail
   go_ret
   exact ⟨ret_bool HF.out.symm, B3.out⟩
  | true =>
  cases h3 : ((t.args.length : Int) == 0)
  all_goals
   have HF := Lib.hid (show rightM (d + 1) t = _ by rw [HF1.out, h1, h2, hie, h3]);have H1 := Lib.hid h1; have HN := Lib.hid h2; clear h1 h2 HF1 hie
   go_enter Tryz.func164, Tryz.ntmps164
   go_wp2_with fail
   have x1 := boxM_new w (.int .i64 t.kind) (.string t.name) (.int .i64 t.val.kind) (.int .i64 t.val.num) (.string t.val.text) (.slice fa t.val.list.length fc) (.slice ga t.args.length gc);have b1 := below_alloc w (.cells #[.int .i64 t.kind, .string t.name, .int .i64 t.val.kind, .int .i64 t.val.num, .string t.val.text, .slice fa t.val.list.length fc, .slice ga t.args.length gc] 68);generalize w.alloc (.cells #[.int .i64 t.kind, .string t.name, .int .i64 t.val.kind, .int .i64 t.val.num, .string t.val.text, .slice fa t.val.list.length fc, .slice ga t.args.length gc] 68) = w1 at *;have X1 := Lib.hid x1; have B1 := Lib.hid b1
   clear x1 b1;obtain ⟨p0, p1, p2, p3, p4, p5, p6⟩ := X1.out.cells;refine (variable_any t.name _ HNS.out).mono ?_;rw [H1.out];rintro e w2 ⟨rfl, hb⟩;have X2 := Lib.hid (X1.out.on hb); have B2 := Lib.hid (Below.step B1.out hb)
   clear hb p0 p1 p2 p3 p4 p5 p6;obtain ⟨p0, p1, p2, p3, p4, p5, p6⟩ := X2.out.cells;go_wp2_with fail
   refine (nothing_any t.val S w2 _ _ _ _ (RepG.on (fun _ h => h) (fun k hk => B2.out.block k (hS k hk)) t.val HV.out)).mono ?_;rw [HN.out];rintro e w3 ⟨rfl, hb⟩;have X3 := Lib.hid (X2.out.on hb); have B3 := Lib.hid (Below.step B2.out hb)
   clear hb p0 p1 p2 p3 p4 p5 p6;obtain ⟨p0, p1, p2, p3, p4, p5, p6⟩ := X3.out.cells;go_wp2_with fail
   go_ret
   exact ⟨ret_bool HF.out.symm, B3.out⟩
 have k1 : (t.kind == 1) = false := by simp [e1]
 by_cases e2 : t.kind = 2
 ·have HF1 : Hid (rightM (d + 1) t = (t.name.toList.isEmpty && (valB t.val && t.args.isEmpty))) := by show _ = _; rw [HF0.out, if_neg e1, if_pos e2]
  have k2 : (t.kind == 2) = true := by simp [e2]
  clear HF0 e1 e2
  cases h1 : t.name.toList.isEmpty with
  | false =>
   have HF : Hid (rightM (d + 1) t = false) := by show _ = _; rw [HF1.out, h1, Bool.false_and]
   clear HF1 hie;go_enter Tryz.func164, Tryz.ntmps164
   go_wp2_with fail
   have x1 := boxM_new w (.int .i64 t.kind) (.string t.name) (.int .i64 t.val.kind) (.int .i64 t.val.num) (.string t.val.text) (.slice fa t.val.list.length fc) (.slice ga t.args.length gc);have b1 := below_alloc w (.cells #[.int .i64 t.kind, .string t.name, .int .i64 t.val.kind, .int .i64 t.val.num, .string t.val.text, .slice fa t.val.list.length fc, .slice ga t.args.length gc] 68);generalize w.alloc (.cells #[.int .i64 t.kind, .string t.name, .int .i64 t.val.kind, .int .i64 t.val.num, .string t.val.text, .slice fa t.val.list.length fc, .slice ga t.args.length gc] 68) = w1 at *;have X1 := Lib.hid x1; have B1 := Lib.hid b1
   clear x1 b1;obtain ⟨p0, p1, p2, p3, p4, p5, p6⟩ := X1.out.cells;go_ret
   exact ⟨ret_bool HF.out.symm, B1.out⟩
  | true =>
  cases h2 : valB t.val with
  | false =>
   have HF : Hid (rightM (d + 1) t = false) := by show _ = _; rw [HF1.out, h1, h2]; rfl
   have HN := Lib.hid h2; clear h2 HF1 hie
   go_enter Tryz.func164, Tryz.ntmps164
   go_wp2_with fail
   have x1 := boxM_new w (.int .i64 t.kind) (.string t.name) (.int .i64 t.val.kind) (.int .i64 t.val.num) (.string t.val.text) (.slice fa t.val.list.length fc) (.slice ga t.args.length gc);have b1 := below_alloc w (.cells #[.int .i64 t.kind, .string t.name, .int .i64 t.val.kind, .int .i64 t.val.num, .string t.val.text, .slice fa t.val.list.length fc, .slice ga t.args.length gc] 68);generalize w.alloc (.cells #[.int .i64 t.kind, .string t.name, .int .i64 t.val.kind, .int .i64 t.val.num, .string t.val.text, .slice fa t.val.list.length fc, .slice ga t.args.length gc] 68) = w1 at *;have X1 := Lib.hid x1; have B1 := Lib.hid b1
   clear x1 b1;obtain ⟨p0, p1, p2, p3, p4, p5, p6⟩ := X1.out.cells;refine (rightValue_any t.val S _ _ _ _ _ (fun k hk => Nat.lt_of_lt_of_le (hS k hk) B1.out.size) (RepG.on (fun _ h => h) (fun k hk => B1.out.block k (hS k hk)) t.val HV.out)).mono ?_;rw [HN.out];rintro e w2 ⟨rfl, hb⟩;have X2 := Lib.hid (X1.out.on hb); have B2 := Lib.hid (Below.step B1.out hb)
   clear hb p0 p1 p2 p3 p4 p5 p6;obtain ⟨p0, p1, p2, p3, p4, p5, p6⟩ := X2.out.cells;go_wp2_with fail
   go_ret
   exact ⟨ret_bool HF.out.symm, B2.out⟩
  | true =>
  cases h3 : ((t.args.length : Int) == 0)
  all_goals
   have HF := Lib.hid (show rightM (d + 1) t = _ by rw [HF1.out, h1, h2, hie, h3]);have HN := Lib.hid h2; clear h2 HF1 hie
   go_enter Tryz.func164, Tryz.ntmps164
   go_wp2_with fail
   have x1 := boxM_new w (.int .i64 t.kind) (.string t.name) (.int .i64 t.val.kind) (.int .i64 t.val.num) (.string t.val.text) (.slice fa t.val.list.length fc) (.slice ga t.args.length gc);have b1 := below_alloc w (.cells #[.int .i64 t.kind, .string t.name, .int .i64 t.val.kind, .int .i64 t.val.num, .string t.val.text, .slice fa t.val.list.length fc, .slice ga t.args.length gc] 68);generalize w.alloc (.cells #[.int .i64 t.kind, .string t.name, .int .i64 t.val.kind, .int .i64 t.val.num, .string t.val.text, .slice fa t.val.list.length fc, .slice ga t.args.length gc] 68) = w1 at *;have X1 := Lib.hid x1; have B1 := Lib.hid b1
   clear x1 b1;obtain ⟨p0, p1, p2, p3, p4, p5, p6⟩ := X1.out.cells;refine (rightValue_any t.val S _ _ _ _ _ (fun k hk => Nat.lt_of_lt_of_le (hS k hk) B1.out.size) (RepG.on (fun _ h => h) (fun k hk => B1.out.block k (hS k hk)) t.val HV.out)).mono ?_;rw [HN.out];rintro e w2 ⟨rfl, hb⟩;have X2 := Lib.hid (X1.out.on hb); have B2 := Lib.hid (Below.step B1.out hb)
   clear hb p0 p1 p2 p3 p4 p5 p6;obtain ⟨p0, p1, p2, p3, p4, p5, p6⟩ := X2.out.cells;go_wp2_with fail
   go_ret
   exact ⟨ret_bool HF.out.symm, B2.out⟩
 have k2 : (t.kind == 2) = false := by simp [e2]
 by_cases e3 : t.kind = 3
 ·have HF1 : Hid (rightM (d + 1) t = (noneB t.val && listB (fnArity (fnOf t.name)) (fnArity (fnOf t.name)) (rightM d) t.args)) := by show _ = _; rw [HF0.out, if_neg e1, if_neg e2, if_pos e3]
  have k3 : (t.kind == 3) = true := by simp [e3]
  clear HF0 e1 e2 e3 hie;obtain ⟨ar, har⟩ : ∃ n, fnArity (fnOf t.name) = n := ⟨_, rfl⟩;have HAR := Lib.hid har;obtain ⟨pb, hpb⟩ : ∃ b, listB ar ar (rightM d) t.args = b := ⟨_, rfl⟩;have HPB := Lib.hid hpb;have HF2 : Hid (rightM (d + 1) t = (noneB t.val && pb)) := by show _ = _; rw [HF1.out, har, hpb]
  clear HF1 har hpb
  cases h2 : noneB t.val with
  | false =>
   have HF : Hid (rightM (d + 1) t = false) := by show _ = _; rw [HF2.out, h2]; rfl
   have HN := Lib.hid h2; clear h2 HF2
   go_enter Tryz.func164, Tryz.ntmps164
   go_wp2_with fail
   have x1 := boxM_new w (.int .i64 t.kind) (.string t.name) (.int .i64 t.val.kind) (.int .i64 t.val.num) (.string t.val.text) (.slice fa t.val.list.length fc) (.slice ga t.args.length gc);have b1 := below_alloc w (.cells #[.int .i64 t.kind, .string t.name, .int .i64 t.val.kind, .int .i64 t.val.num, .string t.val.text, .slice fa t.val.list.length fc, .slice ga t.args.length gc] 68);generalize w.alloc (.cells #[.int .i64 t.kind, .string t.name, .int .i64 t.val.kind, .int .i64 t.val.num, .string t.val.text, .slice fa t.val.list.length fc, .slice ga t.args.length gc] 68) = w1 at *;have X1 := Lib.hid x1; have B1 := Lib.hid b1
   clear x1 b1;obtain ⟨p0, p1, p2, p3, p4, p5, p6⟩ := X1.out.cells;generalize w.heap.size = bt at X1 ⊢;refine wp_region_factsG (by rfl) 73 (by rfl) (by kernel_rfl) (fun _ i v => (i = 0 → v = .pointer (some ⟨bt, 2, none⟩)) ∧ (i = 1 → v = .agg #[.int .i64 t.val.kind, .int .i64 t.val.num, .string t.val.text, .slice fa t.val.list.length fc]) ∧ (i = 2 → v = .bool false) ∧ (i = 3 → v = .bool false) ∧ (i = 12 → v = .bool false) ∧ (i = 13 → v = .bool false)) (fun w' => Below w1.heap.size w1 w') (Below.drew (Below.refl _ _)) ⟨?s0, ?s1, ?s2, ?s3, ?s4, ?s5, ?s6, ?s7, ?s8, ?s9, ?s10, ?s11, ?s12, ?s13, trivial⟩ ?fin
   case s0 =>
    intro a w' hoff hg hdep K hK;rw [if_pos (by rfl)];have h2 := off_at hoff 2 (v := .pointer (some ⟨bt, 0, none⟩)) (by kernel_rfl) rfl;go_simp;exact hK.out _ _ hg ⟨fun _ => rfl, nn,nn,nn,nn,nn⟩ (fun _ _ h => h)
   case s1 =>
    intro a w' hoff hg hdep K hK;obtain ⟨v0, e0, f0⟩ := hdep 0 _ 43 (by kernel_rfl) rfl rfl;obtain rfl := f0.1 rfl;rw [if_pos (by rfl)];obtain ⟨q0, q1, q2, q3, q4, q5, q6⟩ := (X1.out.on hg).cells;go_simp;exact hK.out _ _ hg ⟨nn, fun _ => rfl, nn,nn,nn,nn⟩ (fun _ _ h => h)
   case s2 =>
    intro a w' hoff hg hdep K hK;obtain ⟨v1, e1, f1⟩ := hdep 1 _ 44 (by kernel_rfl) rfl rfl;obtain rfl := f1.2.1 rfl;rw [if_pos (by rfl)];go_simp;refine (nothing_any t.val S _ _ _ _ _ (RepG.on (fun _ h => h) (fun k hk => (Below.step B1.out hg).block k (hS k hk)) t.val HV.out)).mono ?_;rw [HN.out];rintro e w2 ⟨rfl, hb⟩;exact hK.out _ _ (Below.step hg hb) ⟨nn,nn, fun _ => rfl, nn,nn,nn⟩ (fun _ _ h => h)
   case s3 =>
    intro a w' hoff hg hdep K hK;obtain ⟨v2, e2, f2⟩ := hdep 2 _ 45 (by kernel_rfl) rfl rfl;obtain rfl := f2.2.2.1 rfl;rw [if_pos (by rfl)];go_simp;exact hK.out _ _ hg ⟨nn,nn,nn, fun _ => rfl, nn,nn⟩ (fun _ _ h => h)
   case s4 =>
    intro a w' hoff hg hdep K hK;obtain ⟨v3, e3, f3⟩ := hdep 3 _ 46 (by kernel_rfl) rfl rfl;obtain rfl := f3.2.2.2.1 rfl;rw [if_neg (by simp [Region.wanted, yielded, e3])];exact hK.out _ _ hg ⟨nn,nn,nn,nn,nn,nn⟩ (fun _ _ h => h)
   case s5 =>
    intro a w' hoff hg hdep K hK;obtain ⟨v3, e3, f3⟩ := hdep 3 _ 46 (by kernel_rfl) rfl rfl;obtain rfl := f3.2.2.2.1 rfl;rw [if_neg (by simp [Region.wanted, yielded, e3])];exact hK.out _ _ hg ⟨nn,nn,nn,nn,nn,nn⟩ (fun _ _ h => h)
   case s6 =>
    intro a w' hoff hg hdep K hK;obtain ⟨v3, e3, f3⟩ := hdep 3 _ 46 (by kernel_rfl) rfl rfl;obtain rfl := f3.2.2.2.1 rfl;rw [if_neg (by simp [Region.wanted, yielded, e3])];exact hK.out _ _ hg ⟨nn,nn,nn,nn,nn,nn⟩ (fun _ _ h => h)
   case s7 =>
    intro a w' hoff hg hdep K hK;obtain ⟨v3, e3, f3⟩ := hdep 3 _ 46 (by kernel_rfl) rfl rfl;obtain rfl := f3.2.2.2.1 rfl;rw [if_neg (by simp [Region.wanted, yielded, e3])];exact hK.out _ _ hg ⟨nn,nn,nn,nn,nn,nn⟩ (fun _ _ h => h)
   case s8 =>
    intro a w' hoff hg hdep K hK;obtain ⟨v3, e3, f3⟩ := hdep 3 _ 46 (by kernel_rfl) rfl rfl;obtain rfl := f3.2.2.2.1 rfl;rw [if_neg (by simp [Region.wanted, yielded, e3])];exact hK.out _ _ hg ⟨nn,nn,nn,nn,nn,nn⟩ (fun _ _ h => h)
   case s9 =>
    intro a w' hoff hg hdep K hK;obtain ⟨v3, e3, f3⟩ := hdep 3 _ 46 (by kernel_rfl) rfl rfl;obtain rfl := f3.2.2.2.1 rfl;rw [if_neg (by simp [Region.wanted, yielded, e3])];exact hK.out _ _ hg ⟨nn,nn,nn,nn,nn,nn⟩ (fun _ _ h => h)
   case s10 =>
    intro a w' hoff hg hdep K hK;obtain ⟨v3, e3, f3⟩ := hdep 3 _ 46 (by kernel_rfl) rfl rfl;obtain rfl := f3.2.2.2.1 rfl;rw [if_neg (by simp [Region.wanted, yielded, e3])];exact hK.out _ _ hg ⟨nn,nn,nn,nn,nn,nn⟩ (fun _ _ h => h)
   case s11 =>
    intro a w' hoff hg hdep K hK;obtain ⟨v3, e3, f3⟩ := hdep 3 _ 46 (by kernel_rfl) rfl rfl;obtain rfl := f3.2.2.2.1 rfl;rw [if_neg (by simp [Region.wanted, yielded, e3])];exact hK.out _ _ hg ⟨nn,nn,nn,nn,nn,nn⟩ (fun _ _ h => h)
   case s12 =>
    intro a w' hoff hg hdep K hK;obtain ⟨v3, e3, f3⟩ := hdep 3 _ 46 (by kernel_rfl) rfl rfl;obtain rfl := f3.2.2.2.1 rfl;rw [if_pos (by rfl)];go_simp;exact hK.out _ _ hg ⟨nn,nn,nn,nn, fun _ => rfl, nn⟩ (fun _ _ h => h)
   case s13 =>
    intro a w' hoff hg hdep K hK;obtain ⟨v12, e12, f12⟩ := hdep 12 _ 55 (by kernel_rfl) rfl rfl;obtain rfl := f12.2.2.2.2.1 rfl;rw [if_pos (by rfl)];go_simp;exact hK.out _ _ hg ⟨nn,nn,nn,nn,nn, fun _ => rfl⟩ (fun _ _ h => h)
   case fin =>
    intro a w9 hoff hb hf;obtain ⟨v0, e0, f0⟩ := hf 0 _ 43 rfl rfl;obtain rfl := f0.1 rfl;obtain ⟨v1, e1, f1⟩ := hf 1 _ 44 rfl rfl;obtain rfl := f1.2.1 rfl;obtain ⟨v2, e2, f2⟩ := hf 2 _ 45 rfl rfl;obtain rfl := f2.2.2.1 rfl;obtain ⟨v3, e3, f3⟩ := hf 3 _ 46 rfl rfl;obtain rfl := f3.2.2.2.1 rfl;obtain ⟨v4, e4, f4⟩ := hf 4 _ 47 rfl rfl;obtain ⟨v5, e5, f5⟩ := hf 5 _ 48 rfl rfl;obtain ⟨v6, e6, f6⟩ := hf 6 _ 49 rfl rfl;obtain ⟨v7, e7, f7⟩ := hf 7 _ 50 rfl rfl;obtain ⟨v8, e8, f8⟩ := hf 8 _ 51 rfl rfl;obtain ⟨v9, e9, f9⟩ := hf 9 _ 52 rfl rfl;obtain ⟨v10, e10, f10⟩ := hf 10 _ 53 rfl rfl;obtain ⟨v11, e11, f11⟩ := hf 11 _ 54 rfl rfl;obtain ⟨v12, e12, f12⟩ := hf 12 _ 55 rfl rfl;obtain rfl := f12.2.2.2.2.1 rfl;obtain ⟨v13, e13, f13⟩ := hf 13 _ 4 rfl rfl;obtain rfl := f13.2.2.2.2.2 rfl;rw [hoff.sets [(43, .pointer (some ⟨bt, 2, none⟩)), (44, .agg #[.int .i64 t.val.kind, .int .i64 t.val.num, .string t.val.text, .slice fa t.val.list.length fc]), (45, .bool false), (46, .bool false), (47, v4), (48, v5), (49, v6), (50, v7), (51, v8), (52, v9), (53, v10), (54, v11), (55, .bool false), (4, .bool false)] (by kernel_rfl) (by intro p hp; simp only [List.mem_cons, List.not_mem_nil, or_false] at hp; rcases hp with rfl | rfl | rfl | rfl | rfl | rfl | rfl | rfl | rfl | rfl | rfl | rfl | rfl | rfl <;> assumption)];clear hoff hf e0 f0 e1 f1 e2 f2 e3 f3 e4 f4 e5 f5 e6 f6 e7 f7 e8 f8 e9 f9 e10 f10 e11 f11 e12 f12 e13 f13;simp only [List.foldl_cons, List.foldl_nil, List.setIfInBounds_toArray, List.set_cons_zero, List.set_cons_succ]
    go_wp2_with fail
    go_ret
    exact ⟨ret_bool HF.out.symm, Below.step B1.out hb⟩
  | true =>
   have HF : Hid (rightM (d + 1) t = pb) := by show _ = _; rw [HF2.out, h2]; rfl
   have HN := Lib.hid h2; clear h2 HF2
   go_enter Tryz.func164, Tryz.ntmps164
   go_wp2_with fail
   have x1 := boxM_new w (.int .i64 t.kind) (.string t.name) (.int .i64 t.val.kind) (.int .i64 t.val.num) (.string t.val.text) (.slice fa t.val.list.length fc) (.slice ga t.args.length gc);have b1 := below_alloc w (.cells #[.int .i64 t.kind, .string t.name, .int .i64 t.val.kind, .int .i64 t.val.num, .string t.val.text, .slice fa t.val.list.length fc, .slice ga t.args.length gc] 68);generalize w.alloc (.cells #[.int .i64 t.kind, .string t.name, .int .i64 t.val.kind, .int .i64 t.val.num, .string t.val.text, .slice fa t.val.list.length fc, .slice ga t.args.length gc] 68) = w1 at *;have X1 := Lib.hid x1; have B1 := Lib.hid b1
   clear x1 b1;obtain ⟨p0, p1, p2, p3, p4, p5, p6⟩ := X1.out.cells;generalize w.heap.size = bt at X1 ⊢;refine wp_region_factsG (by rfl) 73 (by rfl) (by kernel_rfl) (fun _ i v => (i = 0 → v = .pointer (some ⟨bt, 2, none⟩)) ∧ (i = 1 → v = .agg #[.int .i64 t.val.kind, .int .i64 t.val.num, .string t.val.text, .slice fa t.val.list.length fc]) ∧ (i = 2 → v = .bool true) ∧ (i = 3 → v = .bool true) ∧ (i = 4 → v = .pointer (some ⟨bt, 6, none⟩)) ∧ (i = 5 → v = .slice ga t.args.length gc) ∧ (i = 6 → v = .pointer (some ⟨bt, 1, none⟩)) ∧ (i = 7 → v = .string t.name) ∧ (i = 8 → v = .int .i64 ar) ∧ (i = 9 → v = .int .i64 ((d : Int) + 1)) ∧ (i = 10 → v = .int .i64 d) ∧ (i = 11 → v = .bool pb) ∧ (i = 12 → v = .bool pb) ∧ (i = 13 → v = .bool pb)) (fun w' => Below w1.heap.size w1 w') (Below.drew (Below.refl _ _)) ⟨?s0, ?s1, ?s2, ?s3, ?s4, ?s5, ?s6, ?s7, ?s8, ?s9, ?s10, ?s11, ?s12, ?s13, trivial⟩ ?fin
   case s0 =>
    intro a w' hoff hg hdep K hK;rw [if_pos (by rfl)];have h2 := off_at hoff 2 (v := .pointer (some ⟨bt, 0, none⟩)) (by kernel_rfl) rfl;go_simp;exact hK.out _ _ hg ⟨fun _ => rfl, nn,nn,nn,nn,nn,nn,nn,nn,nn,nn,nn,nn,nn⟩ (fun _ _ h => h)
   case s1 =>
    intro a w' hoff hg hdep K hK;obtain ⟨v0, e0, f0⟩ := hdep 0 _ 43 (by kernel_rfl) rfl rfl;obtain rfl := f0.1 rfl;rw [if_pos (by rfl)];obtain ⟨q0, q1, q2, q3, q4, q5, q6⟩ := (X1.out.on hg).cells;go_simp;exact hK.out _ _ hg ⟨nn, fun _ => rfl, nn,nn,nn,nn,nn,nn,nn,nn,nn,nn,nn,nn⟩ (fun _ _ h => h)
   case s2 =>
    intro a w' hoff hg hdep K hK;obtain ⟨v1, e1, f1⟩ := hdep 1 _ 44 (by kernel_rfl) rfl rfl;obtain rfl := f1.2.1 rfl;rw [if_pos (by rfl)];go_simp;refine (nothing_any t.val S _ _ _ _ _ (RepG.on (fun _ h => h) (fun k hk => (Below.step B1.out hg).block k (hS k hk)) t.val HV.out)).mono ?_;rw [HN.out];rintro e w2 ⟨rfl, hb⟩;exact hK.out _ _ (Below.step hg hb) ⟨nn,nn, fun _ => rfl, nn,nn,nn,nn,nn,nn,nn,nn,nn,nn,nn⟩ (fun _ _ h => h)
   case s3 =>
    intro a w' hoff hg hdep K hK;obtain ⟨v2, e2, f2⟩ := hdep 2 _ 45 (by kernel_rfl) rfl rfl;obtain rfl := f2.2.2.1 rfl;rw [if_pos (by rfl)];go_simp;exact hK.out _ _ hg ⟨nn,nn,nn, fun _ => rfl, nn,nn,nn,nn,nn,nn,nn,nn,nn,nn⟩ (fun _ _ h => h)
   case s4 =>
    intro a w' hoff hg hdep K hK;obtain ⟨v3, e3, f3⟩ := hdep 3 _ 46 (by kernel_rfl) rfl rfl;obtain rfl := f3.2.2.2.1 rfl;rw [if_pos (by simp [Region.wanted, yielded, e3])];have h2 := off_at hoff 2 (v := .pointer (some ⟨bt, 0, none⟩)) (by kernel_rfl) rfl;go_simp;exact hK.out _ _ hg ⟨nn,nn,nn,nn, fun _ => rfl, nn,nn,nn,nn,nn,nn,nn,nn,nn⟩ (fun _ _ h => h)
   case s5 =>
    intro a w' hoff hg hdep K hK;obtain ⟨v3, e3, f3⟩ := hdep 3 _ 46 (by kernel_rfl) rfl rfl;obtain rfl := f3.2.2.2.1 rfl;obtain ⟨v4, e4, f4⟩ := hdep 4 _ 47 (by kernel_rfl) rfl rfl;obtain rfl := f4.2.2.2.2.1 rfl;rw [if_pos (by simp [Region.wanted, yielded, e3])];obtain ⟨q0, q1, q2, q3, q4, q5, q6⟩ := (X1.out.on hg).cells;go_simp;exact hK.out _ _ hg ⟨nn,nn,nn,nn,nn, fun _ => rfl, nn,nn,nn,nn,nn,nn,nn,nn⟩ (fun _ _ h => h)
   case s6 =>
    intro a w' hoff hg hdep K hK;obtain ⟨v3, e3, f3⟩ := hdep 3 _ 46 (by kernel_rfl) rfl rfl;obtain rfl := f3.2.2.2.1 rfl;rw [if_pos (by simp [Region.wanted, yielded, e3])];have h2 := off_at hoff 2 (v := .pointer (some ⟨bt, 0, none⟩)) (by kernel_rfl) rfl;go_simp;exact hK.out _ _ hg ⟨nn,nn,nn,nn,nn,nn, fun _ => rfl, nn,nn,nn,nn,nn,nn,nn⟩ (fun _ _ h => h)
   case s7 =>
    intro a w' hoff hg hdep K hK;obtain ⟨v3, e3, f3⟩ := hdep 3 _ 46 (by kernel_rfl) rfl rfl;obtain rfl := f3.2.2.2.1 rfl;obtain ⟨v6, e6, f6⟩ := hdep 6 _ 49 (by kernel_rfl) rfl rfl;obtain rfl := f6.2.2.2.2.2.2.1 rfl;rw [if_pos (by simp [Region.wanted, yielded, e3])];obtain ⟨q0, q1, q2, q3, q4, q5, q6⟩ := (X1.out.on hg).cells;go_simp;exact hK.out _ _ hg ⟨nn,nn,nn,nn,nn,nn,nn, fun _ => rfl, nn,nn,nn,nn,nn,nn⟩ (fun _ _ h => h)
   case s8 =>
    intro a w' hoff hg hdep K hK;obtain ⟨v3, e3, f3⟩ := hdep 3 _ 46 (by kernel_rfl) rfl rfl;obtain rfl := f3.2.2.2.1 rfl;obtain ⟨v7, e7, f7⟩ := hdep 7 _ 50 (by kernel_rfl) rfl rfl;obtain rfl := f7.2.2.2.2.2.2.2.1 rfl;rw [if_pos (by simp [Region.wanted, yielded, e3])];go_simp;refine (arity_any t.name _).mono ?_;rw [HAR.out];rintro e w2 ⟨rfl, hb⟩;exact hK.out _ _ (Below.step hg hb) ⟨nn,nn,nn,nn,nn,nn,nn,nn, fun _ => rfl, nn,nn,nn,nn,nn⟩ (fun _ _ h => h)
   case s9 =>
    intro a w' hoff hg hdep K hK;obtain ⟨v3, e3, f3⟩ := hdep 3 _ 46 (by kernel_rfl) rfl rfl;obtain rfl := f3.2.2.2.1 rfl;rw [if_pos (by simp [Region.wanted, yielded, e3])];have h1 := off_at hoff 1 (v := .int .i64 ((d : Int) + 1)) (by kernel_rfl) rfl;go_simp;exact hK.out _ _ hg ⟨nn,nn,nn,nn,nn,nn,nn,nn,nn, fun _ => rfl, nn,nn,nn,nn⟩ (fun _ _ h => h)
   case s10 =>
    intro a w' hoff hg hdep K hK;obtain ⟨v3, e3, f3⟩ := hdep 3 _ 46 (by kernel_rfl) rfl rfl;obtain rfl := f3.2.2.2.1 rfl;obtain ⟨v9, e9, f9⟩ := hdep 9 _ 52 (by kernel_rfl) rfl rfl;obtain rfl := f9.2.2.2.2.2.2.2.2.2.1 rfl;rw [if_pos (by simp [Region.wanted, yielded, e3])];go_simp;exact hK.out _ _ hg ⟨nn,nn,nn,nn,nn,nn,nn,nn,nn,nn, fun _ => rfl, nn,nn,nn⟩ (fun _ _ h => h)
   case s11 =>
    intro a w' hoff hg hdep K hK;obtain ⟨v3, e3, f3⟩ := hdep 3 _ 46 (by kernel_rfl) rfl rfl;obtain rfl := f3.2.2.2.1 rfl;obtain ⟨v5, e5, f5⟩ := hdep 5 _ 48 (by kernel_rfl) rfl rfl;obtain rfl := f5.2.2.2.2.2.1 rfl;obtain ⟨v8, e8, f8⟩ := hdep 8 _ 51 (by kernel_rfl) rfl rfl;obtain rfl := f8.2.2.2.2.2.2.2.2.1 rfl;obtain ⟨v10, e10, f10⟩ := hdep 10 _ 53 (by kernel_rfl) rfl rfl;obtain rfl := f10.2.2.2.2.2.2.2.2.2.2.1 rfl;rw [if_pos (by simp [Region.wanted, yielded, e3])];go_simp;refine (parts_of d HH.out t.args ar S _ _ (fun k hk => Nat.lt_of_lt_of_le (hS k hk) (Below.step B1.out hg).size) (RepMs.on (fun _ h => h) (fun k hk => (Below.step B1.out hg).block k (hS k hk)) HL.out)).mono ?_;rw [HPB.out];rintro e w2 ⟨rfl, hb⟩;exact hK.out _ _ (Below.step hg hb) ⟨nn,nn,nn,nn,nn,nn,nn,nn,nn,nn,nn, fun _ => rfl, nn,nn⟩ (fun _ _ h => h)
   case s12 =>
    intro a w' hoff hg hdep K hK;obtain ⟨v3, e3, f3⟩ := hdep 3 _ 46 (by kernel_rfl) rfl rfl;obtain rfl := f3.2.2.2.1 rfl;obtain ⟨v11, e11, f11⟩ := hdep 11 _ 54 (by kernel_rfl) rfl rfl;obtain rfl := f11.2.2.2.2.2.2.2.2.2.2.2.1 rfl;rw [if_pos (by rfl)];go_simp;exact hK.out _ _ hg ⟨nn,nn,nn,nn,nn,nn,nn,nn,nn,nn,nn,nn, fun _ => rfl, nn⟩ (fun _ _ h => h)
   case s13 =>
    intro a w' hoff hg hdep K hK;obtain ⟨v12, e12, f12⟩ := hdep 12 _ 55 (by kernel_rfl) rfl rfl;obtain rfl := f12.2.2.2.2.2.2.2.2.2.2.2.2.1 rfl;rw [if_pos (by rfl)];go_simp;exact hK.out _ _ hg ⟨nn,nn,nn,nn,nn,nn,nn,nn,nn,nn,nn,nn,nn, fun _ => rfl⟩ (fun _ _ h => h)
   case fin =>
    intro a w9 hoff hb hf;obtain ⟨v0, e0, f0⟩ := hf 0 _ 43 rfl rfl;obtain rfl := f0.1 rfl;obtain ⟨v1, e1, f1⟩ := hf 1 _ 44 rfl rfl;obtain rfl := f1.2.1 rfl;obtain ⟨v2, e2, f2⟩ := hf 2 _ 45 rfl rfl;obtain rfl := f2.2.2.1 rfl;obtain ⟨v3, e3, f3⟩ := hf 3 _ 46 rfl rfl;obtain rfl := f3.2.2.2.1 rfl;obtain ⟨v4, e4, f4⟩ := hf 4 _ 47 rfl rfl;obtain rfl := f4.2.2.2.2.1 rfl;obtain ⟨v5, e5, f5⟩ := hf 5 _ 48 rfl rfl;obtain rfl := f5.2.2.2.2.2.1 rfl;obtain ⟨v6, e6, f6⟩ := hf 6 _ 49 rfl rfl;obtain rfl := f6.2.2.2.2.2.2.1 rfl;obtain ⟨v7, e7, f7⟩ := hf 7 _ 50 rfl rfl;obtain rfl := f7.2.2.2.2.2.2.2.1 rfl;obtain ⟨v8, e8, f8⟩ := hf 8 _ 51 rfl rfl;obtain rfl := f8.2.2.2.2.2.2.2.2.1 rfl;obtain ⟨v9, e9, f9⟩ := hf 9 _ 52 rfl rfl;obtain rfl := f9.2.2.2.2.2.2.2.2.2.1 rfl;obtain ⟨v10, e10, f10⟩ := hf 10 _ 53 rfl rfl;obtain rfl := f10.2.2.2.2.2.2.2.2.2.2.1 rfl;obtain ⟨v11, e11, f11⟩ := hf 11 _ 54 rfl rfl;obtain rfl := f11.2.2.2.2.2.2.2.2.2.2.2.1 rfl;obtain ⟨v12, e12, f12⟩ := hf 12 _ 55 rfl rfl;obtain rfl := f12.2.2.2.2.2.2.2.2.2.2.2.2.1 rfl;obtain ⟨v13, e13, f13⟩ := hf 13 _ 4 rfl rfl;obtain rfl := f13.2.2.2.2.2.2.2.2.2.2.2.2.2 rfl;rw [hoff.sets [(43, .pointer (some ⟨bt, 2, none⟩)), (44, .agg #[.int .i64 t.val.kind, .int .i64 t.val.num, .string t.val.text, .slice fa t.val.list.length fc]), (45, .bool true), (46, .bool true), (47, .pointer (some ⟨bt, 6, none⟩)), (48, .slice ga t.args.length gc), (49, .pointer (some ⟨bt, 1, none⟩)), (50, .string t.name), (51, .int .i64 ar), (52, .int .i64 ((d : Int) + 1)), (53, .int .i64 d), (54, .bool pb), (55, .bool pb), (4, .bool pb)] (by kernel_rfl) (by intro p hp; simp only [List.mem_cons, List.not_mem_nil, or_false] at hp; rcases hp with rfl | rfl | rfl | rfl | rfl | rfl | rfl | rfl | rfl | rfl | rfl | rfl | rfl | rfl <;> assumption)];clear hoff hf e0 f0 e1 f1 e2 f2 e3 f3 e4 f4 e5 f5 e6 f6 e7 f7 e8 f8 e9 f9 e10 f10 e11 f11 e12 f12 e13 f13;simp only [List.foldl_cons, List.foldl_nil, List.setIfInBounds_toArray, List.set_cons_zero, List.set_cons_succ]
    go_wp2_with fail
    go_ret
    exact ⟨ret_bool HF.out.symm, Below.step B1.out hb⟩
 have k3 : (t.kind == 3) = false := by simp [e3]
 by_cases e4 : t.kind = 4
 ·have HF1 : Hid (rightM (d + 1) t = (opB t.name && (noneB t.val && listB 2 2 (rightM d) t.args))) := by show _ = _; rw [HF0.out, if_neg e1, if_neg e2, if_neg e3, if_pos e4]
  have k4 : (t.kind == 4) = true := by simp [e4]
  clear HF0 e1 e2 e3 e4 hie
  cases h1 : opB t.name with
  | false =>
   have HF : Hid (rightM (d + 1) t = false) := by show _ = _; rw [HF1.out, h1, Bool.false_and]
   have H1 := Lib.hid h1; clear h1 HF1
   go_enter Tryz.func164, Tryz.ntmps164
   go_wp2_with fail
   have x1 := boxM_new w (.int .i64 t.kind) (.string t.name) (.int .i64 t.val.kind) (.int .i64 t.val.num) (.string t.val.text) (.slice fa t.val.list.length fc) (.slice ga t.args.length gc);have b1 := below_alloc w (.cells #[.int .i64 t.kind, .string t.name, .int .i64 t.val.kind, .int .i64 t.val.num, .string t.val.text, .slice fa t.val.list.length fc, .slice ga t.args.length gc] 68);generalize w.alloc (.cells #[.int .i64 t.kind, .string t.name, .int .i64 t.val.kind, .int .i64 t.val.num, .string t.val.text, .slice fa t.val.list.length fc, .slice ga t.args.length gc] 68) = w1 at *;have X1 := Lib.hid x1; have B1 := Lib.hid b1
   clear x1 b1;obtain ⟨p0, p1, p2, p3, p4, p5, p6⟩ := X1.out.cells;refine (reckoning_any t.name _).mono ?_;rw [H1.out];rintro e w2 ⟨rfl, rfl⟩;go_wp2_with fail
   go_ret
   exact ⟨ret_bool HF.out.symm, B1.out⟩
  | true =>
  cases h2 : noneB t.val with
  | false =>
   have HF : Hid (rightM (d + 1) t = false) := by show _ = _; rw [HF1.out, h1, h2]; rfl
   have H1 := Lib.hid h1; have HN := Lib.hid h2; clear h1 h2 HF1
   go_enter Tryz.func164, Tryz.ntmps164
   go_wp2_with fail
   have x1 := boxM_new w (.int .i64 t.kind) (.string t.name) (.int .i64 t.val.kind) (.int .i64 t.val.num) (.string t.val.text) (.slice fa t.val.list.length fc) (.slice ga t.args.length gc);have b1 := below_alloc w (.cells #[.int .i64 t.kind, .string t.name, .int .i64 t.val.kind, .int .i64 t.val.num, .string t.val.text, .slice fa t.val.list.length fc, .slice ga t.args.length gc] 68);generalize w.alloc (.cells #[.int .i64 t.kind, .string t.name, .int .i64 t.val.kind, .int .i64 t.val.num, .string t.val.text, .slice fa t.val.list.length fc, .slice ga t.args.length gc] 68) = w1 at *;have X1 := Lib.hid x1; have B1 := Lib.hid b1
   clear x1 b1;obtain ⟨p0, p1, p2, p3, p4, p5, p6⟩ := X1.out.cells;refine (reckoning_any t.name _).mono ?_;rw [H1.out];rintro e w2 ⟨rfl, rfl⟩;go_wp2_with fail
   refine (nothing_any t.val S w1 _ _ _ _ (RepG.on (fun _ h => h) (fun k hk => B1.out.block k (hS k hk)) t.val HV.out)).mono ?_;rw [HN.out];rintro e w2 ⟨rfl, hb⟩;have X2 := Lib.hid (X1.out.on hb); have B2 := Lib.hid (Below.step B1.out hb)
   clear hb p0 p1 p2 p3 p4 p5 p6;obtain ⟨p0, p1, p2, p3, p4, p5, p6⟩ := X2.out.cells;go_wp2_with fail
   go_ret
   exact ⟨ret_bool HF.out.symm, B2.out⟩
  | true =>
   have HF : Hid (rightM (d + 1) t = listB 2 2 (rightM d) t.args) := by show _ = _; rw [HF1.out, h1, h2]; rfl
   have H1 := Lib.hid h1; have HN := Lib.hid h2; clear h1 h2 HF1
   go_enter Tryz.func164, Tryz.ntmps164
   go_wp2_with fail
   have x1 := boxM_new w (.int .i64 t.kind) (.string t.name) (.int .i64 t.val.kind) (.int .i64 t.val.num) (.string t.val.text) (.slice fa t.val.list.length fc) (.slice ga t.args.length gc);have b1 := below_alloc w (.cells #[.int .i64 t.kind, .string t.name, .int .i64 t.val.kind, .int .i64 t.val.num, .string t.val.text, .slice fa t.val.list.length fc, .slice ga t.args.length gc] 68);generalize w.alloc (.cells #[.int .i64 t.kind, .string t.name, .int .i64 t.val.kind, .int .i64 t.val.num, .string t.val.text, .slice fa t.val.list.length fc, .slice ga t.args.length gc] 68) = w1 at *;have X1 := Lib.hid x1; have B1 := Lib.hid b1
   clear x1 b1;obtain ⟨p0, p1, p2, p3, p4, p5, p6⟩ := X1.out.cells;refine (reckoning_any t.name _).mono ?_;rw [H1.out];rintro e w2 ⟨rfl, rfl⟩;go_wp2_with fail
   refine (nothing_any t.val S w1 _ _ _ _ (RepG.on (fun _ h => h) (fun k hk => B1.out.block k (hS k hk)) t.val HV.out)).mono ?_;rw [HN.out];rintro e w2 ⟨rfl, hb⟩;have X2 := Lib.hid (X1.out.on hb); have B2 := Lib.hid (Below.step B1.out hb)
   clear hb p0 p1 p2 p3 p4 p5 p6;obtain ⟨p0, p1, p2, p3, p4, p5, p6⟩ := X2.out.cells;go_wp2_with fail
   refine (parts_of d HH.out t.args 2 S _ _ (fun k hk => Nat.lt_of_lt_of_le (hS k hk) B2.out.size) (RepMs.on (fun _ h => h) (fun k hk => B2.out.block k (hS k hk)) HL.out)).mono ?_;rintro e w3 ⟨rfl, hb⟩;have B3 := Lib.hid (Below.step B2.out hb);clear hb;go_wp2_with fail
   go_ret
   exact ⟨ret_bool HF.out.symm, B3.out⟩
 have k4 : (t.kind == 4) = false := by simp [e4]
 have HF : Hid (rightM (d + 1) t = false) := by show _ = _; rw [HF0.out, if_neg e1, if_neg e2, if_neg e3, if_neg e4]
 clear HF0 e1 e2 e3 e4 hie;go_enter Tryz.func164, Tryz.ntmps164
 go_wp2_with fail
 have x1 := boxM_new w (.int .i64 t.kind) (.string t.name) (.int .i64 t.val.kind) (.int .i64 t.val.num) (.string t.val.text) (.slice fa t.val.list.length fc) (.slice ga t.args.length gc);have b1 := below_alloc w (.cells #[.int .i64 t.kind, .string t.name, .int .i64 t.val.kind, .int .i64 t.val.num, .string t.val.text, .slice fa t.val.list.length fc, .slice ga t.args.length gc] 68);generalize w.alloc (.cells #[.int .i64 t.kind, .string t.name, .int .i64 t.val.kind, .int .i64 t.val.num, .string t.val.text, .slice fa t.val.list.length fc, .slice ga t.args.length gc] 68) = w1 at *;have X1 := Lib.hid x1; have B1 := Lib.hid b1
 clear x1 b1;obtain ⟨p0, p1, p2, p3, p4, p5, p6⟩ := X1.out.cells;go_ret
 exact ⟨ret_bool HF.out.symm, B1.out⟩
theorem within_any : ∀ d : Nat, d ≤ 100 → RightTmAt d
 | 0, _ => within_zero
 | d + 1, hd => within_succ d (by omega) (within_any d (by omega))
end Go.Proofs.YtjmnnjikmmglpaaGreat
