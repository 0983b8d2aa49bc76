/-
  PrRight
-/
import Derived.Test.YtjmnnjikmmglpaaGreatKF17
import Derived.Test.YtjmnnjikmmglpaaGreatKF18
namespace Go.Proofs.YtjmnnjikmmglpaaGreat
open Go.RowKit
theorem headV_pos : ∀ {l : List V} (h : 0 < l.length), headV l = (l[0].kind == 3)
 | [], h => by simp at h
 | _ :: _, _ => rfl
set_option maxRecDepth 100000 in
set_option maxHeartbeats 4000000 in
theorem rightTerm_any (x : Tm) (S : Nat → Prop) (w : World) (c0 c1 c2 c3 c4 c5 c6 : Value) (hS : ∀ k, S k → k < w.heap.size) (hx : RepM S w x c0 c1 c2 c3 c4 c5 c6) :
  Calls Tryz.prog 130 #[.agg #[c0, c1, c2, c3, c4, c5, c6]] w fun e w' => e = .returned (.bool (rightM 8 x)) ∧ Below w.heap.size w w' := by
 have HX := Lib.hid hx;obtain ⟨fa, fc, ga, gc, rfl, rfl, rfl, rfl, rfl, rfl, rfl⟩ := hx.form;clear hx;go_enter Tryz.func130, Tryz.ntmps130
 go_wp2_with fail
 have x1 := boxM_new w (.int .i64 x.kind) (.string x.name) (.int .i64 x.val.kind) (.int .i64 x.val.num) (.string x.val.text) (.slice fa x.val.list.length fc) (.slice ga x.args.length gc);have b1 := below_alloc w (.cells #[.int .i64 x.kind, .string x.name, .int .i64 x.val.kind, .int .i64 x.val.num, .string x.val.text, .slice fa x.val.list.length fc, .slice ga x.args.length gc] 68);generalize w.alloc (.cells #[.int .i64 x.kind, .string x.name, .int .i64 x.val.kind, .int .i64 x.val.num, .string x.val.text, .slice fa x.val.list.length fc, .slice ga x.args.length gc] 68) = w1 at *;have X1 := Lib.hid x1; have B1 := Lib.hid b1
 clear x1 b1;obtain ⟨p0, p1, p2, p3, p4, p5, p6⟩ := X1.out.cells;refine (within_any 8 (by omega) x S _ _ _ _ _ _ _ _ (fun k hk => Nat.lt_of_lt_of_le (hS k hk) B1.out.size) (RepM.on (fun _ h => h) (fun k hk => B1.out.block k (hS k hk)) x HX.out)).mono ?_;rintro e w2 ⟨rfl, hb⟩;go_wp2_with fail
 go_ret
 exact ⟨rfl, Below.step B1.out hb⟩
set_option maxRecDepth 100000 in
set_option maxHeartbeats 4000000 in
theorem rightAtom_any (s : ByteArray) (l : List Tm) (S : Nat → Prop) (w : World) (a : Value) (hS : ∀ k, S k → k < w.heap.size) (hs : s.size ≤ maxLen) (hl : RepMs S w l a) :
  Calls Tryz.prog 101 #[.string s, a] w fun e w' => e = .returned (.bool (atomB s l)) ∧ Below w.heap.size w w' := by
 have HL := Lib.hid hl; have HNS := Lib.hid hs
 obtain ⟨ga, gc, rfl⟩ := SlG.form hl;clear hl hs
 cases h1 : relB s with
 | false =>
  have HF : Hid (atomB s l = false) := by show _ = _; rw [atomB, h1]; rfl
  have H1 := Lib.hid h1; clear h1
  go_enter Tryz.func101, Tryz.ntmps101
  go_wp2_with fail
  have B1 := Lib.hid (Below.refl w.heap.size w);refine (relation_any s _ HNS.out).mono ?_;rw [H1.out];rintro e w2 ⟨rfl, hb⟩;have B2 := Lib.hid (Below.step B1.out hb);clear hb;go_wp2_with fail
  go_ret
  exact ⟨ret_bool HF.out.symm, B2.out⟩
 | true =>
 cases h2 : listB 1 8 (rightM 8) l with
 | false =>
  have HF : Hid (atomB s l = false) := by show _ = _; rw [atomB, h1, h2]; rfl
  have H1 := Lib.hid h1; have H2 := Lib.hid h2; clear h1 h2
  go_enter Tryz.func101, Tryz.ntmps101
  go_wp2_with fail
  have B1 := Lib.hid (Below.refl w.heap.size w);refine (relation_any s _ HNS.out).mono ?_;rw [H1.out];rintro e w2 ⟨rfl, hb⟩;have B2 := Lib.hid (Below.step B1.out hb);clear hb;go_wp2_with fail
  refine (rl_terms l 1 8 (rightM 8) S _ _ (fun k hk => Nat.lt_of_lt_of_le (hS k hk) B2.out.size) (RepMs.on (fun _ h => h) (fun k hk => B2.out.block k (hS k hk)) HL.out) (fun wr hb z _ fa fc ga gc hz => rightTerm_any z S wr _ _ _ _ _ _ _ (fun k hk => Nat.lt_of_lt_of_le (Nat.lt_of_lt_of_le (hS k hk) B2.out.size) hb.size) hz)).mono ?_;rw [H2.out];rintro e w3 ⟨rfl, hb⟩;have B3 := Lib.hid (Below.step B2.out hb);clear hb;go_wp2_with fail
  go_ret
  exact ⟨ret_bool HF.out.symm, B3.out⟩
 | true =>
  obtain ⟨g1, g2, -⟩ := listB_bounds h2;have hpos : 0 < l.length := by omega
  have HF : Hid (atomB s l = placeB l[0]) := by
   show _ = _
   rw [atomB, h1, h2]
   cases l with
   | nil => simp at hpos
   | cons z l => rfl
  have H1 := Lib.hid h1; have H2 := Lib.hid h2; clear h1 h2 g1 g2
  go_enter Tryz.func101, Tryz.ntmps101
  go_wp2_with fail
  have B1 := Lib.hid (Below.refl w.heap.size w);refine (relation_any s _ HNS.out).mono ?_;rw [H1.out];rintro e w2 ⟨rfl, hb⟩;have B2 := Lib.hid (Below.step B1.out hb);clear hb;go_wp2_with fail
  refine (rl_terms l 1 8 (rightM 8) S _ _ (fun k hk => Nat.lt_of_lt_of_le (hS k hk) B2.out.size) (RepMs.on (fun _ h => h) (fun k hk => B2.out.block k (hS k hk)) HL.out) (fun wr hb z _ fa fc ga gc hz => rightTerm_any z S wr _ _ _ _ _ _ _ (fun k hk => Nat.lt_of_lt_of_le (Nat.lt_of_lt_of_le (hS k hk) B2.out.size) hb.size) hz)).mono ?_;rw [H2.out];rintro e w3 ⟨rfl, hb⟩;have B3 := Lib.hid (Below.step B2.out hb);clear hb;have hA := (RepMs.on (fun _ h => h) (fun k hk => B3.out.block k (hS k hk)) HL.out : RepMs S w3 l (.slice ga l.length gc));obtain ⟨-, hcap, b, o, fa, fc, ha, hac, rfl, -, g0, g1, g2, g3, g4, g5, g6, g⟩ := RepMs.at hA 0 hpos;simp only [Nat.zero_mul, Nat.add_zero] at g0 g1 g2 g3 g4 g5 g6
  have G := Lib.hid g;clear hA g;generalize l[0] = z at *;have hp1 : (0 : Int) < (l.length : Int) := by omega
  go_wp2_with fail
  refine (place_any z S _ _ _ _ _ _ _ _ G.out).mono ?_;rintro e w4 ⟨rfl, hb⟩;have B4 := Lib.hid (Below.step B3.out hb);clear hb;go_wp2_with fail
  go_ret
  exact ⟨ret_bool HF.out.symm, B4.out⟩
set_option maxRecDepth 100000 in
set_option maxHeartbeats 4000000 in
theorem rightLiteral_any (x : Li) (S : Nat → Prop) (w : World) (c0 c1 c2 : Value) (hS : ∀ k, S k → k < w.heap.size) (hx : RepLi S w x c0 c1 c2) :
  Calls Tryz.prog 104 #[.agg #[c0, c1, c2]] w fun e w' => e = .returned (.bool (liB x)) ∧ Below w.heap.size w w' := by
 have HL := Lib.hid hx.2.2.2.2; have HNS := Lib.hid hx.2.2.2.1
 obtain ⟨ga, gc, rfl, rfl, rfl⟩ := hx.form;clear hx
 by_cases e1 : x.kind = 1
 ·have HF : Hid (liB x = atomB x.name x.args) := by show _ = _; rw [liB, if_pos e1]
  obtain ⟨pb, hpb⟩ : ∃ b, atomB x.name x.args = b := ⟨_, rfl⟩;have HP := Lib.hid hpb; rw [hpb] at HF
  have k1 : (x.kind == 1) = true := by simp [e1]
  clear hpb e1;go_enter Tryz.func104, Tryz.ntmps104
  go_wp2_with fail
  have x1 := boxLi_new w (.int .i64 x.kind) (.string x.name) (.slice ga x.args.length gc);have b1 := below_alloc w (.cells #[.int .i64 x.kind, .string x.name, .slice ga x.args.length gc] 60);generalize w.alloc (.cells #[.int .i64 x.kind, .string x.name, .slice ga x.args.length gc] 60) = w1 at *;have X1 := Lib.hid x1; have B1 := Lib.hid b1
  clear x1 b1;obtain ⟨p0, p1, p2⟩ := X1.out.cells;refine (rightAtom_any x.name x.args S _ _ (fun k hk => Nat.lt_of_lt_of_le (hS k hk) B1.out.size) HNS.out (RepMs.on (fun _ h => h) (fun k hk => B1.out.block k (hS k hk)) HL.out)).mono ?_;rw [HP.out];rintro e w2 ⟨rfl, hb⟩;have X2 := Lib.hid (X1.out.on hb);have B2 := Lib.hid (Below.step B1.out hb);clear hb;clear p0 p1 p2;obtain ⟨p0, p1, p2⟩ := X2.out.cells;go_wp2_with fail
  go_ret
  exact ⟨ret_bool HF.out.symm, B2.out⟩
 have k1 : (x.kind == 1) = false := by simp [e1]
 by_cases e2 : x.kind = 2
 ·have HF : Hid (liB x = atomB x.name x.args) := by show _ = _; rw [liB, if_neg e1, if_pos e2]
  obtain ⟨pb, hpb⟩ : ∃ b, atomB x.name x.args = b := ⟨_, rfl⟩;have HP := Lib.hid hpb; rw [hpb] at HF
  have k2 : (x.kind == 2) = true := by simp [e2]
  clear hpb e1 e2;go_enter Tryz.func104, Tryz.ntmps104
  go_wp2_with fail
  have x1 := boxLi_new w (.int .i64 x.kind) (.string x.name) (.slice ga x.args.length gc);have b1 := below_alloc w (.cells #[.int .i64 x.kind, .string x.name, .slice ga x.args.length gc] 60);generalize w.alloc (.cells #[.int .i64 x.kind, .string x.name, .slice ga x.args.length gc] 60) = w1 at *;have X1 := Lib.hid x1; have B1 := Lib.hid b1
  clear x1 b1;obtain ⟨p0, p1, p2⟩ := X1.out.cells;refine (rightAtom_any x.name x.args S _ _ (fun k hk => Nat.lt_of_lt_of_le (hS k hk) B1.out.size) HNS.out (RepMs.on (fun _ h => h) (fun k hk => B1.out.block k (hS k hk)) HL.out)).mono ?_;rw [HP.out];rintro e w2 ⟨rfl, hb⟩;have X2 := Lib.hid (X1.out.on hb);have B2 := Lib.hid (Below.step B1.out hb);clear hb;clear p0 p1 p2;obtain ⟨p0, p1, p2⟩ := X2.out.cells;go_wp2_with fail
  go_ret
  exact ⟨ret_bool HF.out.symm, B2.out⟩
 have k2 : (x.kind == 2) = false := by simp [e2]
 by_cases e3 : x.kind = 3
 ·have HF1 : Hid (liB x = (cmpB x.name && listB 2 2 (rightM 8) x.args)) := by show _ = _; rw [liB, if_neg e1, if_neg e2, if_pos e3]
  have k3 : (x.kind == 3) = true := by simp [e3]
  clear e1 e2 e3
  cases h1 : cmpB x.name with
  | false =>
   have HF : Hid (liB x = false) := by show _ = _; rw [HF1.out, h1]; rfl
   have H1 := Lib.hid h1; clear h1 HF1
   go_enter Tryz.func104, Tryz.ntmps104
   go_wp2_with fail
   have x1 := boxLi_new w (.int .i64 x.kind) (.string x.name) (.slice ga x.args.length gc);have b1 := below_alloc w (.cells #[.int .i64 x.kind, .string x.name, .slice ga x.args.length gc] 60);generalize w.alloc (.cells #[.int .i64 x.kind, .string x.name, .slice ga x.args.length gc] 60) = w1 at *;have X1 := Lib.hid x1; have B1 := Lib.hid b1
   clear x1 b1;obtain ⟨p0, p1, p2⟩ := X1.out.cells;refine (comparing_any x.name _).mono ?_;rw [H1.out];rintro e w2 ⟨rfl, rfl⟩;go_wp2_with fail
   go_ret
   exact ⟨ret_bool HF.out.symm, B1.out⟩
  | true =>
   obtain ⟨pb, hpb⟩ : ∃ b, listB 2 2 (rightM 8) x.args = b := ⟨_, rfl⟩;have HP := Lib.hid hpb;have HF : Hid (liB x = pb) := by show _ = _; rw [HF1.out, h1, hpb]; rfl
   have H1 := Lib.hid h1; clear h1 HF1 hpb
   go_enter Tryz.func104, Tryz.ntmps104
   go_wp2_with fail
   have x1 := boxLi_new w (.int .i64 x.kind) (.string x.name) (.slice ga x.args.length gc);have b1 := below_alloc w (.cells #[.int .i64 x.kind, .string x.name, .slice ga x.args.length gc] 60);generalize w.alloc (.cells #[.int .i64 x.kind, .string x.name, .slice ga x.args.length gc] 60) = w1 at *;have X1 := Lib.hid x1; have B1 := Lib.hid b1
   clear x1 b1;obtain ⟨p0, p1, p2⟩ := X1.out.cells;refine (comparing_any x.name _).mono ?_;rw [H1.out];rintro e w2 ⟨rfl, rfl⟩;go_wp2_with fail
   refine (rl_terms x.args 2 2 (rightM 8) S _ _ (fun k hk => Nat.lt_of_lt_of_le (hS k hk) B1.out.size) (RepMs.on (fun _ h => h) (fun k hk => B1.out.block k (hS k hk)) HL.out) (fun wr hb z _ fa fc ga gc hz => rightTerm_any z S wr _ _ _ _ _ _ _ (fun k hk => Nat.lt_of_lt_of_le (Nat.lt_of_lt_of_le (hS k hk) B1.out.size) hb.size) hz)).mono ?_;rw [HP.out];rintro e w2 ⟨rfl, hb⟩;have X2 := Lib.hid (X1.out.on hb);have B2 := Lib.hid (Below.step B1.out hb);clear hb;clear p0 p1 p2;obtain ⟨p0, p1, p2⟩ := X2.out.cells;go_wp2_with fail
   go_ret
   exact ⟨ret_bool HF.out.symm, B2.out⟩
 have k3 : (x.kind == 3) = false := by simp [e3]
 by_cases e4 : x.kind = 4
 ·have HF1 : Hid (liB x = (varB x.name && listB 1 1 (rightM 8) x.args)) := by show _ = _; rw [liB, if_neg e1, if_neg e2, if_neg e3, if_pos e4]
  have k4 : (x.kind == 4) = true := by simp [e4]
  clear e1 e2 e3 e4
  cases h1 : varB x.name with
  | false =>
   have HF : Hid (liB x = false) := by show _ = _; rw [HF1.out, h1]; rfl
   have H1 := Lib.hid h1; clear h1 HF1
   go_enter Tryz.func104, Tryz.ntmps104
   go_wp2_with fail
   have x1 := boxLi_new w (.int .i64 x.kind) (.string x.name) (.slice ga x.args.length gc);have b1 := below_alloc w (.cells #[.int .i64 x.kind, .string x.name, .slice ga x.args.length gc] 60);generalize w.alloc (.cells #[.int .i64 x.kind, .string x.name, .slice ga x.args.length gc] 60) = w1 at *;have X1 := Lib.hid x1; have B1 := Lib.hid b1
   clear x1 b1;obtain ⟨p0, p1, p2⟩ := X1.out.cells;refine (variable_any x.name _ HNS.out).mono ?_;rw [H1.out];rintro e w2 ⟨rfl, hb⟩;have X2 := Lib.hid (X1.out.on hb);have B2 := Lib.hid (Below.step B1.out hb);clear hb;clear p0 p1 p2;obtain ⟨p0, p1, p2⟩ := X2.out.cells;go_wp2_with fail
   go_ret
   exact ⟨ret_bool HF.out.symm, B2.out⟩
  | true =>
   obtain ⟨pb, hpb⟩ : ∃ b, listB 1 1 (rightM 8) x.args = b := ⟨_, rfl⟩;have HP := Lib.hid hpb;have HF : Hid (liB x = pb) := by show _ = _; rw [HF1.out, h1, hpb]; rfl
   have H1 := Lib.hid h1; clear h1 HF1 hpb
   go_enter Tryz.func104, Tryz.ntmps104
   go_wp2_with fail
   have x1 := boxLi_new w (.int .i64 x.kind) (.string x.name) (.slice ga x.args.length gc);have b1 := below_alloc w (.cells #[.int .i64 x.kind, .string x.name, .slice ga x.args.length gc] 60);generalize w.alloc (.cells #[.int .i64 x.kind, .string x.name, .slice ga x.args.length gc] 60) = w1 at *;have X1 := Lib.hid x1; have B1 := Lib.hid b1
   clear x1 b1;obtain ⟨p0, p1, p2⟩ := X1.out.cells;refine (variable_any x.name _ HNS.out).mono ?_;rw [H1.out];rintro e w2 ⟨rfl, hb⟩;have X2 := Lib.hid (X1.out.on hb);have B2 := Lib.hid (Below.step B1.out hb);clear hb;clear p0 p1 p2;obtain ⟨p0, p1, p2⟩ := X2.out.cells;go_wp2_with fail
   refine (rl_terms x.args 1 1 (rightM 8) S _ _ (fun k hk => Nat.lt_of_lt_of_le (hS k hk) B2.out.size) (RepMs.on (fun _ h => h) (fun k hk => B2.out.block k (hS k hk)) HL.out) (fun wr hb z _ fa fc ga gc hz => rightTerm_any z S wr _ _ _ _ _ _ _ (fun k hk => Nat.lt_of_lt_of_le (Nat.lt_of_lt_of_le (hS k hk) B2.out.size) hb.size) hz)).mono ?_;rw [HP.out];rintro e w3 ⟨rfl, hb⟩;have X3 := Lib.hid (X2.out.on hb);have B3 := Lib.hid (Below.step B2.out hb);clear hb;clear p0 p1 p2;obtain ⟨p0, p1, p2⟩ := X3.out.cells;go_wp2_with fail
   go_ret
   exact ⟨ret_bool HF.out.symm, B3.out⟩
 have k4 : (x.kind == 4) = false := by simp [e4]
 have HF : Hid (liB x = false) := by show _ = _; rw [liB, if_neg e1, if_neg e2, if_neg e3, if_neg e4]
 clear e1 e2 e3 e4;go_enter Tryz.func104, Tryz.ntmps104
 go_wp2_with fail
 have x1 := boxLi_new w (.int .i64 x.kind) (.string x.name) (.slice ga x.args.length gc);have b1 := below_alloc w (.cells #[.int .i64 x.kind, .string x.name, .slice ga x.args.length gc] 60);generalize w.alloc (.cells #[.int .i64 x.kind, .string x.name, .slice ga x.args.length gc] 60) = w1 at *;have X1 := Lib.hid x1; have B1 := Lib.hid b1
 clear x1 b1;obtain ⟨p0, p1, p2⟩ := X1.out.cells;go_ret
 exact ⟨ret_bool HF.out.symm, B1.out⟩
set_option maxRecDepth 100000 in
set_option maxHeartbeats 4000000 in
theorem rightDecl_any (x : De) (S : Nat → Prop) (w : World) (c0 c1 : Value) (_hS : ∀ k, S k → k < w.heap.size) (hx : RepDe S w x c0 c1) :
  Calls Tryz.prog 58 #[.agg #[c0, c1]] w fun e w' => e = .returned (.bool (deB x)) ∧ Below w.heap.size w w' := by
 obtain ⟨rfl, rfl, hs, -⟩ := hx;have HNS := Lib.hid hs; clear hs
 cases h1 : relB x.name with
 | false =>
  have HF : Hid (deB x = false) := by show _ = _; rw [deB, h1]; rfl
  have H1 := Lib.hid h1; clear h1
  go_enter Tryz.func58, Tryz.ntmps58
  go_wp2_with fail
  have x1 := boxDe_new w (.string x.name) (.int .i64 x.arity);have b1 := below_alloc w (.cells #[.string x.name, .int .i64 x.arity] 112);generalize w.alloc (.cells #[.string x.name, .int .i64 x.arity] 112) = w1 at *;have X1 := Lib.hid x1; have B1 := Lib.hid b1
  clear x1 b1;obtain ⟨p0, p1⟩ := X1.out.cells;refine (relation_any x.name _ HNS.out).mono ?_;rw [H1.out];rintro e w2 ⟨rfl, hb⟩;have X2 := Lib.hid (X1.out.on hb);have B2 := Lib.hid (Below.step B1.out hb);clear hb;clear p0 p1;obtain ⟨p0, p1⟩ := X2.out.cells;go_wp2_with fail
  go_ret
  exact ⟨ret_bool HF.out.symm, B2.out⟩
 | true =>
 by_cases h2 : 1 ≤ x.arity
 case neg =>
  have HF : Hid (deB x = false) := by show _ = _; rw [deB, h1, decide_eq_false h2]; rfl
  have H1 := Lib.hid h1;have h2' : decide (1 ≤ x.arity) = false := decide_eq_false h2;clear h1 h2;go_enter Tryz.func58, Tryz.ntmps58
  go_wp2_with fail
  have x1 := boxDe_new w (.string x.name) (.int .i64 x.arity);have b1 := below_alloc w (.cells #[.string x.name, .int .i64 x.arity] 112);generalize w.alloc (.cells #[.string x.name, .int .i64 x.arity] 112) = w1 at *;have X1 := Lib.hid x1; have B1 := Lib.hid b1
  clear x1 b1;obtain ⟨p0, p1⟩ := X1.out.cells;refine (relation_any x.name _ HNS.out).mono ?_;rw [H1.out];rintro e w2 ⟨rfl, hb⟩;have X2 := Lib.hid (X1.out.on hb);have B2 := Lib.hid (Below.step B1.out hb);clear hb;clear p0 p1;obtain ⟨p0, p1⟩ := X2.out.cells;go_wp2_with fail
  go_ret
  exact ⟨ret_bool HF.out.symm, B2.out⟩
 have h2' : decide (1 ≤ x.arity) = true := decide_eq_true h2
 by_cases h3 : x.arity ≤ 8
 ·have HF : Hid (deB x = true) := by show _ = _; rw [deB, h1, h2', decide_eq_true h3]; rfl
  have H1 := Lib.hid h1;have h3' : decide (x.arity ≤ 8) = true := decide_eq_true h3;clear h1 h2 h3;go_enter Tryz.func58, Tryz.ntmps58
  go_wp2_with fail
  have x1 := boxDe_new w (.string x.name) (.int .i64 x.arity);have b1 := below_alloc w (.cells #[.string x.name, .int .i64 x.arity] 112);generalize w.alloc (.cells #[.string x.name, .int .i64 x.arity] 112) = w1 at *;have X1 := Lib.hid x1; have B1 := Lib.hid b1
  clear x1 b1;obtain ⟨p0, p1⟩ := X1.out.cells;refine (relation_any x.name _ HNS.out).mono ?_;rw [H1.out];rintro e w2 ⟨rfl, hb⟩;have X2 := Lib.hid (X1.out.on hb);have B2 := Lib.hid (Below.step B1.out hb);clear hb;clear p0 p1;obtain ⟨p0, p1⟩ := X2.out.cells;go_wp2_with fail
  go_ret
  exact ⟨ret_bool HF.out.symm, B2.out⟩
 ·have HF : Hid (deB x = false) := by show _ = _; rw [deB, h1, h2', decide_eq_false h3]; rfl
  have H1 := Lib.hid h1;have h3' : decide (x.arity ≤ 8) = false := decide_eq_false h3;clear h1 h2 h3;go_enter Tryz.func58, Tryz.ntmps58
  go_wp2_with fail
  have x1 := boxDe_new w (.string x.name) (.int .i64 x.arity);have b1 := below_alloc w (.cells #[.string x.name, .int .i64 x.arity] 112);generalize w.alloc (.cells #[.string x.name, .int .i64 x.arity] 112) = w1 at *;have X1 := Lib.hid x1; have B1 := Lib.hid b1
  clear x1 b1;obtain ⟨p0, p1⟩ := X1.out.cells;refine (relation_any x.name _ HNS.out).mono ?_;rw [H1.out];rintro e w2 ⟨rfl, hb⟩;have X2 := Lib.hid (X1.out.on hb);have B2 := Lib.hid (Below.step B1.out hb);clear hb;clear p0 p1;obtain ⟨p0, p1⟩ := X2.out.cells;go_wp2_with fail
  go_ret
  exact ⟨ret_bool HF.out.symm, B2.out⟩
set_option maxRecDepth 100000 in
set_option maxHeartbeats 4000000 in
theorem rightTuple_any (x : Fa) (S : Nat → Prop) (w : World) (c0 c1 : Value) (hS : ∀ k, S k → k < w.heap.size) (hx : RepFa S w x c0 c1) :
  Calls Tryz.prog 60 #[.agg #[c0, c1]] w fun e w' => e = .returned (.bool (faB x)) ∧ Below w.heap.size w w' := by
 have HL := Lib.hid hx.2.2; have HNS := Lib.hid hx.2.1
 obtain ⟨ga, gc, rfl, rfl⟩ := hx.form;clear hx
 cases h1 : relB x.name with
 | false =>
  have HF : Hid (faB x = false) := by show _ = _; rw [faB, h1]; rfl
  have H1 := Lib.hid h1; clear h1
  go_enter Tryz.func60, Tryz.ntmps60
  go_wp2_with fail
  have x1 := boxFa_new w (.string x.name) (.slice ga x.args.length gc);have b1 := below_alloc w (.cells #[.string x.name, .slice ga x.args.length gc] 73);generalize w.alloc (.cells #[.string x.name, .slice ga x.args.length gc] 73) = w1 at *;have X1 := Lib.hid x1; have B1 := Lib.hid b1
  clear x1 b1;obtain ⟨p0, p1⟩ := X1.out.cells;refine (relation_any x.name _ HNS.out).mono ?_;rw [H1.out];rintro e w2 ⟨rfl, hb⟩;have X2 := Lib.hid (X1.out.on hb);have B2 := Lib.hid (Below.step B1.out hb);clear hb;clear p0 p1;obtain ⟨p0, p1⟩ := X2.out.cells;go_wp2_with fail
  go_ret
  exact ⟨ret_bool HF.out.symm, B2.out⟩
 | true =>
 cases h2 : listB 1 8 (rightV 4) x.args with
 | false =>
  have HF : Hid (faB x = false) := by show _ = _; rw [faB, h1, h2]; rfl
  have H1 := Lib.hid h1; have H2 := Lib.hid h2; clear h1 h2
  go_enter Tryz.func60, Tryz.ntmps60
  go_wp2_with fail
  have x1 := boxFa_new w (.string x.name) (.slice ga x.args.length gc);have b1 := below_alloc w (.cells #[.string x.name, .slice ga x.args.length gc] 73);generalize w.alloc (.cells #[.string x.name, .slice ga x.args.length gc] 73) = w1 at *;have X1 := Lib.hid x1; have B1 := Lib.hid b1
  clear x1 b1;obtain ⟨p0, p1⟩ := X1.out.cells;refine (relation_any x.name _ HNS.out).mono ?_;rw [H1.out];rintro e w2 ⟨rfl, hb⟩;have X2 := Lib.hid (X1.out.on hb);have B2 := Lib.hid (Below.step B1.out hb);clear hb;clear p0 p1;obtain ⟨p0, p1⟩ := X2.out.cells;go_wp2_with fail
  refine (rl_values x.args 1 8 (rightV 4) S _ _ (fun k hk => Nat.lt_of_lt_of_le (hS k hk) B2.out.size) (RepLG.on (fun _ h => h) (fun k hk => B2.out.block k (hS k hk)) HL.out) (fun wr hb z _ fa fc hz => right_any z wr.heap.size wr _ _ _ _ (Nat.le_refl _) (RepG.on (fun k hk => Nat.lt_of_lt_of_le (Nat.lt_of_lt_of_le (hS k hk) B2.out.size) hb.size) (fun _ _ => rfl) z hz))).mono ?_;rw [H2.out];rintro e w3 ⟨rfl, hb⟩;have X3 := Lib.hid (X2.out.on hb);have B3 := Lib.hid (Below.step B2.out hb);clear hb;clear p0 p1;obtain ⟨p0, p1⟩ := X3.out.cells;go_wp2_with fail
  go_ret
  exact ⟨ret_bool HF.out.symm, B3.out⟩
 | true =>
  obtain ⟨g1, g2, -⟩ := listB_bounds h2;have hpos : 0 < x.args.length := by omega
  have HF1 : Hid (faB x = (x.args[0].kind == 3)) := by
   show _ = _
   rw [faB, h1, h2, headV_pos hpos];rfl
  have H1 := Lib.hid h1; have H2 := Lib.hid h2; clear h1 h2 g1 g2
  generalize x.args = l at *
  cases h3 : (l[0].kind == 3)
  all_goals
   have HF := Lib.hid HF1.out;rw [h3] at HF;clear HF1;go_enter Tryz.func60, Tryz.ntmps60
   go_wp2_with fail
   have x1 := boxFa_new w (.string x.name) (.slice ga l.length gc);have b1 := below_alloc w (.cells #[.string x.name, .slice ga l.length gc] 73);generalize w.alloc (.cells #[.string x.name, .slice ga l.length gc] 73) = w1 at *;have X1 := Lib.hid x1; have B1 := Lib.hid b1
   clear x1 b1;obtain ⟨p0, p1⟩ := X1.out.cells;refine (relation_any x.name _ HNS.out).mono ?_;rw [H1.out];rintro e w2 ⟨rfl, hb⟩;have X2 := Lib.hid (X1.out.on hb);have B2 := Lib.hid (Below.step B1.out hb);clear hb;clear p0 p1;obtain ⟨p0, p1⟩ := X2.out.cells;go_wp2_with fail
   refine (rl_values l 1 8 (rightV 4) S _ _ (fun k hk => Nat.lt_of_lt_of_le (hS k hk) B2.out.size) (RepLG.on (fun _ h => h) (fun k hk => B2.out.block k (hS k hk)) HL.out) (fun wr hb z _ fa fc hz => right_any z wr.heap.size wr _ _ _ _ (Nat.le_refl _) (RepG.on (fun k hk => Nat.lt_of_lt_of_le (Nat.lt_of_lt_of_le (hS k hk) B2.out.size) hb.size) (fun _ _ => rfl) z hz))).mono ?_;rw [H2.out];rintro e w3 ⟨rfl, hb⟩;have X3 := Lib.hid (X2.out.on hb);have B3 := Lib.hid (Below.step B2.out hb);clear hb;clear p0 p1;obtain ⟨p0, p1⟩ := X3.out.cells;have hA := (RepLG.on (fun _ h => h) (fun k hk => B3.out.block k (hS k hk)) HL.out : RepLG S w3 l (.slice ga l.length gc));obtain ⟨-, hcap, b, o, fa, fc, rfl, -, g0, g1, g2, g3, g⟩ := RepLG.at hA 0 hpos;simp only [Nat.zero_mul, Nat.add_zero] at g0 g1 g2 g3
   clear hA g;generalize l[0] = z at *;have hp1 : (0 : Int) < (l.length : Int) := by omega
   go_wp2_with fail
   go_ret
   exact ⟨ret_bool HF.out.symm, B3.out⟩
set_option maxRecDepth 100000 in
set_option maxHeartbeats 4000000 in
theorem rightAgg_any (x : Ru) (S : Nat → Prop) (w : World) (c0 c1 c2 c3 c4 c5 : Value) (hS : ∀ k, S k → k < w.heap.size) (hx : RepRu S w x c0 c1 c2 c3 c4 c5) :
  Calls Tryz.prog 102 #[.agg #[c0, c1, c2, c3, c4, c5]] w fun e w' => e = .returned (.bool (aggB x)) ∧ Below w.heap.size w w' := by
 have HL := Lib.hid hx.2.2.2.2.2.2.2.2.1;obtain ⟨fa, fc, ga, gc, rfl, rfl, rfl, rfl, rfl, rfl⟩ := hx.form;clear hx
 cases h0 : x.agg.toList.isEmpty with
 | true =>
  cases h1 : (x.at' == 0)
  all_goals
   have HF := Lib.hid (show aggB x = _ by rw [aggB, if_pos h0, h1]);go_enter Tryz.func102, Tryz.ntmps102
   go_wp2_with fail
   have x1 := boxRu_new w (.string x.label) (.string x.head) (.slice fa x.args.length fc) (.string x.agg) (.int .i64 x.at') (.slice ga x.body.length gc);have b1 := below_alloc w (.cells #[.string x.label, .string x.head, .slice fa x.args.length fc, .string x.agg, .int .i64 x.at', .slice ga x.body.length gc] 47);generalize w.alloc (.cells #[.string x.label, .string x.head, .slice fa x.args.length fc, .string x.agg, .int .i64 x.at', .slice ga x.body.length gc] 47) = w1 at *;have X1 := Lib.hid x1; have B1 := Lib.hid b1
   clear x1 b1;obtain ⟨p0, p1, p2, p3, p4, p5⟩ := X1.out.cells;go_ret
   exact ⟨ret_bool HF.out.symm, B1.out⟩
 | false =>
 have HF0 : Hid (aggB x = (aggNameB x.agg && (decide (1 ≤ x.at') && (decide (x.at' < (x.args.length : Int)) && kindAt x.args x.at' == 1)))) := by show _ = _; rw [aggB, if_neg (by rw [h0]; decide)]
 cases h1 : (x.agg.toList == [109, 105, 110]) with
 | true =>
  have HF1 : Hid (aggB x = (decide (1 ≤ x.at') && (decide (x.at' < (x.args.length : Int)) && kindAt x.args x.at' == 1))) := by show _ = _; rw [HF0.out, aggNameB, h1]; simp
  clear HF0
  by_cases a1 : 1 ≤ x.at'
  case neg =>
   have a1' : decide (1 ≤ x.at') = false := decide_eq_false a1;have HF : Hid (aggB x = false) := by show _ = _; rw [HF1.out, a1']; rfl
   clear a1 HF1;go_enter Tryz.func102, Tryz.ntmps102
   go_wp2_with fail
   have x1 := boxRu_new w (.string x.label) (.string x.head) (.slice fa x.args.length fc) (.string x.agg) (.int .i64 x.at') (.slice ga x.body.length gc);have b1 := below_alloc w (.cells #[.string x.label, .string x.head, .slice fa x.args.length fc, .string x.agg, .int .i64 x.at', .slice ga x.body.length gc] 47);generalize w.alloc (.cells #[.string x.label, .string x.head, .slice fa x.args.length fc, .string x.agg, .int .i64 x.at', .slice ga x.body.length gc] 47) = w1 at *;have X1 := Lib.hid x1; have B1 := Lib.hid b1
   clear x1 b1;obtain ⟨p0, p1, p2, p3, p4, p5⟩ := X1.out.cells;go_ret
   exact ⟨ret_bool HF.out.symm, B1.out⟩
  have a1' : decide (1 ≤ x.at') = true := decide_eq_true a1
  by_cases a2 : x.at' < (x.args.length : Int)
  case neg =>
   have a2' : decide (x.at' < (x.args.length : Int)) = false := decide_eq_false a2;have HF : Hid (aggB x = false) := by show _ = _; rw [HF1.out, a1', a2']; rfl
   clear a1 a2 HF1;go_enter Tryz.func102, Tryz.ntmps102
   go_wp2_with fail
   have x1 := boxRu_new w (.string x.label) (.string x.head) (.slice fa x.args.length fc) (.string x.agg) (.int .i64 x.at') (.slice ga x.body.length gc);have b1 := below_alloc w (.cells #[.string x.label, .string x.head, .slice fa x.args.length fc, .string x.agg, .int .i64 x.at', .slice ga x.body.length gc] 47);generalize w.alloc (.cells #[.string x.label, .string x.head, .slice fa x.args.length fc, .string x.agg, .int .i64 x.at', .slice ga x.body.length gc] 47) = w1 at *;have X1 := Lib.hid x1; have B1 := Lib.hid b1
   clear x1 b1;obtain ⟨p0, p1, p2, p3, p4, p5⟩ := X1.out.cells;go_ret
   exact ⟨ret_bool HF.out.symm, B1.out⟩
  have a2' : decide (x.at' < (x.args.length : Int)) = true := decide_eq_true a2;obtain ⟨k, hk⟩ := Int.eq_ofNat_of_zero_le (show 0 ≤ x.at' by omega);have hkl : k < x.args.length := by omega
  have HF2 : Hid (aggB x = (x.args[k].kind == 1)) := by
   show _ = _
   rw [HF1.out, a1', a2', kindAt, hk];simp [List.getElem?_eq_getElem hkl]
  clear HF1;generalize x.at' = at0 at *;subst hk
  cases h9 : (x.args[k].kind == 1)
  all_goals
   have HF := Lib.hid HF2.out;rw [h9] at HF;have b1 := below_alloc w (.cells #[.string x.label, .string x.head, .slice fa x.args.length fc, .string x.agg, .int .i64 (k : Int), .slice ga x.body.length gc] 47);have hA := (RepMs.on (fun _ h => h) (fun j hj => b1.block j (hS j hj)) HL.out : RepMs S (w.alloc (.cells #[.string x.label, .string x.head, .slice fa x.args.length fc, .string x.agg, .int .i64 (k : Int), .slice ga x.body.length gc] 47)) x.args (.slice fa x.args.length fc));obtain ⟨-, hcap, b, o, ha, hc, ia, ic, rfl, -, g0, -⟩ := RepMs.at hA k hkl;have BB := Lib.hid b1;clear hA HF2 b1;generalize x.args[k] = z at *;have hk0 : (0 : Int) ≤ (k : Int) := by omega
   go_enter Tryz.func102, Tryz.ntmps102
   go_wp2_with fail
   go_ret
   exact ⟨ret_bool HF.out.symm, BB.out⟩
 | false =>
 cases h2 : (x.agg.toList == [109, 97, 120]) with
 | true =>
  have HF1 : Hid (aggB x = (decide (1 ≤ x.at') && (decide (x.at' < (x.args.length : Int)) && kindAt x.args x.at' == 1))) := by show _ = _; rw [HF0.out, aggNameB, h1, h2]; simp
  clear HF0
  by_cases a1 : 1 ≤ x.at'
  case neg =>
   have a1' : decide (1 ≤ x.at') = false := decide_eq_false a1;have HF : Hid (aggB x = false) := by show _ = _; rw [HF1.out, a1']; rfl
   clear a1 HF1;go_enter Tryz.func102, Tryz.ntmps102
   go_wp2_with fail
   have x1 := boxRu_new w (.string x.label) (.string x.head) (.slice fa x.args.length fc) (.string x.agg) (.int .i64 x.at') (.slice ga x.body.length gc);have b1 := below_alloc w (.cells #[.string x.label, .string x.head, .slice fa x.args.length fc, .string x.agg, .int .i64 x.at', .slice ga x.body.length gc] 47);generalize w.alloc (.cells #[.string x.label, .string x.head, .slice fa x.args.length fc, .string x.agg, .int .i64 x.at', .slice ga x.body.length gc] 47) = w1 at *;have X1 := Lib.hid x1; have B1 := Lib.hid b1
   clear x1 b1;obtain ⟨p0, p1, p2, p3, p4, p5⟩ := X1.out.cells;go_ret
   exact ⟨ret_bool HF.out.symm, B1.out⟩
  have a1' : decide (1 ≤ x.at') = true := decide_eq_true a1
  by_cases a2 : x.at' < (x.args.length : Int)
  case neg =>
   have a2' : decide (x.at' < (x.args.length : Int)) = false := decide_eq_false a2;have HF : Hid (aggB x = false) := by show _ = _; rw [HF1.out, a1', a2']; rfl
   clear a1 a2 HF1;go_enter Tryz.func102, Tryz.ntmps102
   go_wp2_with fail
   have x1 := boxRu_new w (.string x.label) (.string x.head) (.slice fa x.args.length fc) (.string x.agg) (.int .i64 x.at') (.slice ga x.body.length gc);have b1 := below_alloc w (.cells #[.string x.label, .string x.head, .slice fa x.args.length fc, .string x.agg, .int .i64 x.at', .slice ga x.body.length gc] 47);generalize w.alloc (.cells #[.string x.label, .string x.head, .slice fa x.args.length fc, .string x.agg, .int .i64 x.at', .slice ga x.body.length gc] 47) = w1 at *;have X1 := Lib.hid x1; have B1 := Lib.hid b1
   clear x1 b1;obtain ⟨p0, p1, p2, p3, p4, p5⟩ := X1.out.cells;go_ret
   exact ⟨ret_bool HF.out.symm, B1.out⟩
  have a2' : decide (x.at' < (x.args.length : Int)) = true := decide_eq_true a2;obtain ⟨k, hk⟩ := Int.eq_ofNat_of_zero_le (show 0 ≤ x.at' by omega);have hkl : k < x.args.length := by omega
  have HF2 : Hid (aggB x = (x.args[k].kind == 1)) := by
   show _ = _
   rw [HF1.out, a1', a2', kindAt, hk];simp [List.getElem?_eq_getElem hkl]
  clear HF1;generalize x.at' = at0 at *;subst hk
  cases h9 : (x.args[k].kind == 1)
  all_goals
   have HF := Lib.hid HF2.out;rw [h9] at HF;have b1 := below_alloc w (.cells #[.string x.label, .string x.head, .slice fa x.args.length fc, .string x.agg, .int .i64 (k : Int), .slice ga x.body.length gc] 47);have hA := (RepMs.on (fun _ h => h) (fun j hj => b1.block j (hS j hj)) HL.out : RepMs S (w.alloc (.cells #[.string x.label, .string x.head, .slice fa x.args.length fc, .string x.agg, .int .i64 (k : Int), .slice ga x.body.length gc] 47)) x.args (.slice fa x.args.length fc));obtain ⟨-, hcap, b, o, ha, hc, ia, ic, rfl, -, g0, -⟩ := RepMs.at hA k hkl;have BB := Lib.hid b1;clear hA HF2 b1;generalize x.args[k] = z at *;have hk0 : (0 : Int) ≤ (k : Int) := by omega
   go_enter Tryz.func102, Tryz.ntmps102
   go_wp2_with fail
   go_ret
   exact ⟨ret_bool HF.out.symm, BB.out⟩
 | false =>
 cases h3 : (x.agg.toList == [99, 111, 117, 110, 116]) with
 | true =>
  have HF1 : Hid (aggB x = (decide (1 ≤ x.at') && (decide (x.at' < (x.args.length : Int)) && kindAt x.args x.at' == 1))) := by show _ = _; rw [HF0.out, aggNameB, h1, h2, h3]; simp
  clear HF0
  by_cases a1 : 1 ≤ x.at'
  case neg =>
   have a1' : decide (1 ≤ x.at') = false := decide_eq_false a1;have HF : Hid (aggB x = false) := by show _ = _; rw [HF1.out, a1']; rfl
   clear a1 HF1;go_enter Tryz.func102, Tryz.ntmps102
   go_wp2_with fail
   have x1 := boxRu_new w (.string x.label) (.string x.head) (.slice fa x.args.length fc) (.string x.agg) (.int .i64 x.at') (.slice ga x.body.length gc);have b1 := below_alloc w (.cells #[.string x.label, .string x.head, .slice fa x.args.length fc, .string x.agg, .int .i64 x.at', .slice ga x.body.length gc] 47);generalize w.alloc (.cells #[.string x.label, .string x.head, .slice fa x.args.length fc, .string x.agg, .int .i64 x.at', .slice ga x.body.length gc] 47) = w1 at *;have X1 := Lib.hid x1; have B1 := Lib.hid b1
   clear x1 b1;obtain ⟨p0, p1, p2, p3, p4, p5⟩ := X1.out.cells;go_ret
   exact ⟨ret_bool HF.out.symm, B1.out⟩
  have a1' : decide (1 ≤ x.at') = true := decide_eq_true a1
  by_cases a2 : x.at' < (x.args.length : Int)
  case neg =>
   have a2' : decide (x.at' < (x.args.length : Int)) = false := decide_eq_false a2;have HF : Hid (aggB x = false) := by show _ = _; rw [HF1.out, a1', a2']; rfl
   clear a1 a2 HF1;go_enter Tryz.func102, Tryz.ntmps102
   go_wp2_with fail
   have x1 := boxRu_new w (.string x.label) (.string x.head) (.slice fa x.args.length fc) (.string x.agg) (.int .i64 x.at') (.slice ga x.body.length gc);have b1 := below_alloc w (.cells #[.string x.label, .string x.head, .slice fa x.args.length fc, .string x.agg, .int .i64 x.at', .slice ga x.body.length gc] 47);generalize w.alloc (.cells #[.string x.label, .string x.head, .slice fa x.args.length fc, .string x.agg, .int .i64 x.at', .slice ga x.body.length gc] 47) = w1 at *;have X1 := Lib.hid x1; have B1 := Lib.hid b1
   clear x1 b1;obtain ⟨p0, p1, p2, p3, p4, p5⟩ := X1.out.cells;go_ret
   exact ⟨ret_bool HF.out.symm, B1.out⟩
  have a2' : decide (x.at' < (x.args.length : Int)) = true := decide_eq_true a2;obtain ⟨k, hk⟩ := Int.eq_ofNat_of_zero_le (show 0 ≤ x.at' by omega);have hkl : k < x.args.length := by omega
  have HF2 : Hid (aggB x = (x.args[k].kind == 1)) := by
   show _ = _
   rw [HF1.out, a1', a2', kindAt, hk];simp [List.getElem?_eq_getElem hkl]
  clear HF1;generalize x.at' = at0 at *;subst hk
  cases h9 : (x.args[k].kind == 1)
  all_goals
   have HF := Lib.hid HF2.out;rw [h9] at HF;have b1 := below_alloc w (.cells #[.string x.label, .string x.head, .slice fa x.args.length fc, .string x.agg, .int .i64 (k : Int), .slice ga x.body.length gc] 47);have hA := (RepMs.on (fun _ h => h) (fun j hj => b1.block j (hS j hj)) HL.out : RepMs S (w.alloc (.cells #[.string x.label, .string x.head, .slice fa x.args.length fc, .string x.agg, .int .i64 (k : Int), .slice ga x.body.length gc] 47)) x.args (.slice fa x.args.length fc));obtain ⟨-, hcap, b, o, ha, hc, ia, ic, rfl, -, g0, -⟩ := RepMs.at hA k hkl;have BB := Lib.hid b1;clear hA HF2 b1;generalize x.args[k] = z at *;have hk0 : (0 : Int) ≤ (k : Int) := by omega
   go_enter Tryz.func102, Tryz.ntmps102
   go_wp2_with fail
   go_ret
   exact ⟨ret_bool HF.out.symm, BB.out⟩
 | false =>
 have HF : Hid (aggB x = false) := by show _ = _; rw [HF0.out, aggNameB, h1, h2, h3]; rfl
 clear HF0;go_enter Tryz.func102, Tryz.ntmps102
 go_wp2_with fail
 have x1 := boxRu_new w (.string x.label) (.string x.head) (.slice fa x.args.length fc) (.string x.agg) (.int .i64 x.at') (.slice ga x.body.length gc);have b1 := below_alloc w (.cells #[.string x.label, .string x.head, .slice fa x.args.length fc, .string x.agg, .int .i64 x.at', .slice ga x.body.length gc] 47);generalize w.alloc (.cells #[.string x.label, .string x.head, .slice fa x.args.length fc, .string x.agg, .int .i64 x.at', .slice ga x.body.length gc] 47) = w1 at *;have X1 := Lib.hid x1; have B1 := Lib.hid b1
 clear x1 b1;obtain ⟨p0, p1, p2, p3, p4, p5⟩ := X1.out.cells;go_ret
 exact ⟨ret_bool HF.out.symm, B1.out⟩
set_option maxRecDepth 100000 in
set_option maxHeartbeats 4000000 in
theorem rightRule_any (x : Ru) (S : Nat → Prop) (w : World) (c0 c1 c2 c3 c4 c5 : Value) (hS : ∀ k, S k → k < w.heap.size) (hx : RepRu S w x c0 c1 c2 c3 c4 c5) :
  Calls Tryz.prog 62 #[.agg #[c0, c1, c2, c3, c4, c5]] w fun e w' => e = .returned (.bool (ruB x)) ∧ Below w.heap.size w w' := by
 have HX := Lib.hid hx;have HL := Lib.hid hx.2.2.2.2.2.2.2.2.1; have HB := Lib.hid hx.2.2.2.2.2.2.2.2.2
 have HN1 := Lib.hid hx.2.2.2.2.1; have HN2 := Lib.hid hx.2.2.2.2.2.1
 obtain ⟨fa, fc, ga, gc, rfl, rfl, rfl, rfl, rfl, rfl⟩ := hx.form;clear hx
 cases h1 : relB x.label with
 | false =>
  have HF : Hid (ruB x = false) := by show _ = _; rw [ruB, h1]; rfl
  have H1 := Lib.hid h1; clear h1
  go_enter Tryz.func62, Tryz.ntmps62
  go_wp2_with fail
  have x1 := boxRu_new w (.string x.label) (.string x.head) (.slice fa x.args.length fc) (.string x.agg) (.int .i64 x.at') (.slice ga x.body.length gc);have b1 := below_alloc w (.cells #[.string x.label, .string x.head, .slice fa x.args.length fc, .string x.agg, .int .i64 x.at', .slice ga x.body.length gc] 47);generalize w.alloc (.cells #[.string x.label, .string x.head, .slice fa x.args.length fc, .string x.agg, .int .i64 x.at', .slice ga x.body.length gc] 47) = w1 at *;have X1 := Lib.hid x1; have B1 := Lib.hid b1
  clear x1 b1;obtain ⟨p0, p1, p2, p3, p4, p5⟩ := X1.out.cells;refine (relation_any x.label _ HN1.out).mono ?_;rw [H1.out];rintro e w2 ⟨rfl, hb⟩;have X2 := Lib.hid (X1.out.on hb);have B2 := Lib.hid (Below.step B1.out hb);clear hb;clear p0 p1 p2 p3 p4 p5;obtain ⟨p0, p1, p2, p3, p4, p5⟩ := X2.out.cells;go_wp2_with fail
  go_ret
  exact ⟨ret_bool HF.out.symm, B2.out⟩
 | true =>
 cases h2 : atomB x.head x.args with
 | false =>
  have HF : Hid (ruB x = false) := by show _ = _; rw [ruB, h1, h2]; rfl
  have H1 := Lib.hid h1; clear h1
  have H2 := Lib.hid h2; clear h2
  go_enter Tryz.func62, Tryz.ntmps62
  go_wp2_with fail
  have x1 := boxRu_new w (.string x.label) (.string x.head) (.slice fa x.args.length fc) (.string x.agg) (.int .i64 x.at') (.slice ga x.body.length gc);have b1 := below_alloc w (.cells #[.string x.label, .string x.head, .slice fa x.args.length fc, .string x.agg, .int .i64 x.at', .slice ga x.body.length gc] 47);generalize w.alloc (.cells #[.string x.label, .string x.head, .slice fa x.args.length fc, .string x.agg, .int .i64 x.at', .slice ga x.body.length gc] 47) = w1 at *;have X1 := Lib.hid x1; have B1 := Lib.hid b1
  clear x1 b1;obtain ⟨p0, p1, p2, p3, p4, p5⟩ := X1.out.cells;refine (relation_any x.label _ HN1.out).mono ?_;rw [H1.out];rintro e w2 ⟨rfl, hb⟩;have X2 := Lib.hid (X1.out.on hb);have B2 := Lib.hid (Below.step B1.out hb);clear hb;clear p0 p1 p2 p3 p4 p5;obtain ⟨p0, p1, p2, p3, p4, p5⟩ := X2.out.cells;go_wp2_with fail
  refine (rightAtom_any x.head x.args S _ _ (fun k hk => Nat.lt_of_lt_of_le (hS k hk) B2.out.size) HN2.out (RepMs.on (fun _ h => h) (fun k hk => B2.out.block k (hS k hk)) HL.out)).mono ?_;rw [H2.out];rintro e w3 ⟨rfl, hb⟩;have X3 := Lib.hid (X2.out.on hb);have B3 := Lib.hid (Below.step B2.out hb);clear hb;clear p0 p1 p2 p3 p4 p5;obtain ⟨p0, p1, p2, p3, p4, p5⟩ := X3.out.cells;go_wp2_with fail
  go_ret
  exact ⟨ret_bool HF.out.symm, B3.out⟩
 | true =>
 cases h3 : aggB x with
 | false =>
  have HF : Hid (ruB x = false) := by show _ = _; rw [ruB, h1, h2, h3]; rfl
  have H1 := Lib.hid h1; clear h1
  have H2 := Lib.hid h2; clear h2
  have H3 := Lib.hid h3; clear h3
  go_enter Tryz.func62, Tryz.ntmps62
  go_wp2_with fail
  have x1 := boxRu_new w (.string x.label) (.string x.head) (.slice fa x.args.length fc) (.string x.agg) (.int .i64 x.at') (.slice ga x.body.length gc);have b1 := below_alloc w (.cells #[.string x.label, .string x.head, .slice fa x.args.length fc, .string x.agg, .int .i64 x.at', .slice ga x.body.length gc] 47);generalize w.alloc (.cells #[.string x.label, .string x.head, .slice fa x.args.length fc, .string x.agg, .int .i64 x.at', .slice ga x.body.length gc] 47) = w1 at *;have X1 := Lib.hid x1; have B1 := Lib.hid b1
  clear x1 b1;obtain ⟨p0, p1, p2, p3, p4, p5⟩ := X1.out.cells;refine (relation_any x.label _ HN1.out).mono ?_;rw [H1.out];rintro e w2 ⟨rfl, hb⟩;have X2 := Lib.hid (X1.out.on hb);have B2 := Lib.hid (Below.step B1.out hb);clear hb;clear p0 p1 p2 p3 p4 p5;obtain ⟨p0, p1, p2, p3, p4, p5⟩ := X2.out.cells;go_wp2_with fail
  refine (rightAtom_any x.head x.args S _ _ (fun k hk => Nat.lt_of_lt_of_le (hS k hk) B2.out.size) HN2.out (RepMs.on (fun _ h => h) (fun k hk => B2.out.block k (hS k hk)) HL.out)).mono ?_;rw [H2.out];rintro e w3 ⟨rfl, hb⟩;have X3 := Lib.hid (X2.out.on hb);have B3 := Lib.hid (Below.step B2.out hb);clear hb;clear p0 p1 p2 p3 p4 p5;obtain ⟨p0, p1, p2, p3, p4, p5⟩ := X3.out.cells;go_wp2_with fail
  refine (rightAgg_any x S _ _ _ _ _ _ _ (fun k hk => Nat.lt_of_lt_of_le (hS k hk) B3.out.size) (RepRu.on (fun _ h => h) (fun k hk => B3.out.block k (hS k hk)) HX.out)).mono ?_;rw [H3.out];rintro e w4 ⟨rfl, hb⟩;have X4 := Lib.hid (X3.out.on hb);have B4 := Lib.hid (Below.step B3.out hb);clear hb;clear p0 p1 p2 p3 p4 p5;obtain ⟨p0, p1, p2, p3, p4, p5⟩ := X4.out.cells;go_wp2_with fail
  go_ret
  exact ⟨ret_bool HF.out.symm, B4.out⟩
 | true =>
 cases h4 : listB 1 8 liB x.body with
 | false =>
  have HF : Hid (ruB x = false) := by show _ = _; rw [ruB, h1, h2, h3, h4]; rfl
  have H1 := Lib.hid h1; clear h1
  have H2 := Lib.hid h2; clear h2
  have H3 := Lib.hid h3; clear h3
  have H4 := Lib.hid h4; clear h4
  go_enter Tryz.func62, Tryz.ntmps62
  go_wp2_with fail
  have x1 := boxRu_new w (.string x.label) (.string x.head) (.slice fa x.args.length fc) (.string x.agg) (.int .i64 x.at') (.slice ga x.body.length gc);have b1 := below_alloc w (.cells #[.string x.label, .string x.head, .slice fa x.args.length fc, .string x.agg, .int .i64 x.at', .slice ga x.body.length gc] 47);generalize w.alloc (.cells #[.string x.label, .string x.head, .slice fa x.args.length fc, .string x.agg, .int .i64 x.at', .slice ga x.body.length gc] 47) = w1 at *;have X1 := Lib.hid x1; have B1 := Lib.hid b1
  clear x1 b1;obtain ⟨p0, p1, p2, p3, p4, p5⟩ := X1.out.cells;refine (relation_any x.label _ HN1.out).mono ?_;rw [H1.out];rintro e w2 ⟨rfl, hb⟩;have X2 := Lib.hid (X1.out.on hb);have B2 := Lib.hid (Below.step B1.out hb);clear hb;clear p0 p1 p2 p3 p4 p5;obtain ⟨p0, p1, p2, p3, p4, p5⟩ := X2.out.cells;go_wp2_with fail
  refine (rightAtom_any x.head x.args S _ _ (fun k hk => Nat.lt_of_lt_of_le (hS k hk) B2.out.size) HN2.out (RepMs.on (fun _ h => h) (fun k hk => B2.out.block k (hS k hk)) HL.out)).mono ?_;rw [H2.out];rintro e w3 ⟨rfl, hb⟩;have X3 := Lib.hid (X2.out.on hb);have B3 := Lib.hid (Below.step B2.out hb);clear hb;clear p0 p1 p2 p3 p4 p5;obtain ⟨p0, p1, p2, p3, p4, p5⟩ := X3.out.cells;go_wp2_with fail
  refine (rightAgg_any x S _ _ _ _ _ _ _ (fun k hk => Nat.lt_of_lt_of_le (hS k hk) B3.out.size) (RepRu.on (fun _ h => h) (fun k hk => B3.out.block k (hS k hk)) HX.out)).mono ?_;rw [H3.out];rintro e w4 ⟨rfl, hb⟩;have X4 := Lib.hid (X3.out.on hb);have B4 := Lib.hid (Below.step B3.out hb);clear hb;clear p0 p1 p2 p3 p4 p5;obtain ⟨p0, p1, p2, p3, p4, p5⟩ := X4.out.cells;go_wp2_with fail
  refine (rl_literals x.body 1 8 liB S _ _ (fun k hk => Nat.lt_of_lt_of_le (hS k hk) B4.out.size) (RepLis.on (fun _ h => h) (fun k hk => B4.out.block k (hS k hk)) HB.out) (fun wr hb z _ ga gc hz => rightLiteral_any z S wr _ _ _ (fun k hk => Nat.lt_of_lt_of_le (Nat.lt_of_lt_of_le (hS k hk) B4.out.size) hb.size) hz)).mono ?_;rw [H4.out];rintro e w5 ⟨rfl, hb⟩;have X5 := Lib.hid (X4.out.on hb);have B5 := Lib.hid (Below.step B4.out hb);clear hb;clear p0 p1 p2 p3 p4 p5;obtain ⟨p0, p1, p2, p3, p4, p5⟩ := X5.out.cells;go_wp2_with fail
  go_ret
  exact ⟨ret_bool HF.out.symm, B5.out⟩
 | true =>
  have HF : Hid (ruB x = true) := by show _ = _; rw [ruB, h1, h2, h3, h4]; rfl
  have H1 := Lib.hid h1; clear h1
  have H2 := Lib.hid h2; clear h2
  have H3 := Lib.hid h3; clear h3
  have H4 := Lib.hid h4; clear h4
  go_enter Tryz.func62, Tryz.ntmps62
  go_wp2_with fail
  have x1 := boxRu_new w (.string x.label) (.string x.head) (.slice fa x.args.length fc) (.string x.agg) (.int .i64 x.at') (.slice ga x.body.length gc);have b1 := below_alloc w (.cells #[.string x.label, .string x.head, .slice fa x.args.length fc, .string x.agg, .int .i64 x.at', .slice ga x.body.length gc] 47);generalize w.alloc (.cells #[.string x.label, .string x.head, .slice fa x.args.length fc, .string x.agg, .int .i64 x.at', .slice ga x.body.length gc] 47) = w1 at *;have X1 := Lib.hid x1; have B1 := Lib.hid b1
  clear x1 b1;obtain ⟨p0, p1, p2, p3, p4, p5⟩ := X1.out.cells;refine (relation_any x.label _ HN1.out).mono ?_;rw [H1.out];rintro e w2 ⟨rfl, hb⟩;have X2 := Lib.hid (X1.out.on hb);have B2 := Lib.hid (Below.step B1.out hb);clear hb;clear p0 p1 p2 p3 p4 p5;obtain ⟨p0, p1, p2, p3, p4, p5⟩ := X2.out.cells;go_wp2_with fail
  refine (rightAtom_any x.head x.args S _ _ (fun k hk => Nat.lt_of_lt_of_le (hS k hk) B2.out.size) HN2.out (RepMs.on (fun _ h => h) (fun k hk => B2.out.block k (hS k hk)) HL.out)).mono ?_;rw [H2.out];rintro e w3 ⟨rfl, hb⟩;have X3 := Lib.hid (X2.out.on hb);have B3 := Lib.hid (Below.step B2.out hb);clear hb;clear p0 p1 p2 p3 p4 p5;obtain ⟨p0, p1, p2, p3, p4, p5⟩ := X3.out.cells;go_wp2_with fail
  refine (rightAgg_any x S _ _ _ _ _ _ _ (fun k hk => Nat.lt_of_lt_of_le (hS k hk) B3.out.size) (RepRu.on (fun _ h => h) (fun k hk => B3.out.block k (hS k hk)) HX.out)).mono ?_;rw [H3.out];rintro e w4 ⟨rfl, hb⟩;have X4 := Lib.hid (X3.out.on hb);have B4 := Lib.hid (Below.step B3.out hb);clear hb;clear p0 p1 p2 p3 p4 p5;obtain ⟨p0, p1, p2, p3, p4, p5⟩ := X4.out.cells;go_wp2_with fail
  refine (rl_literals x.body 1 8 liB S _ _ (fun k hk => Nat.lt_of_lt_of_le (hS k hk) B4.out.size) (RepLis.on (fun _ h => h) (fun k hk => B4.out.block k (hS k hk)) HB.out) (fun wr hb z _ ga gc hz => rightLiteral_any z S wr _ _ _ (fun k hk => Nat.lt_of_lt_of_le (Nat.lt_of_lt_of_le (hS k hk) B4.out.size) hb.size) hz)).mono ?_;rw [H4.out];rintro e w5 ⟨rfl, hb⟩;have X5 := Lib.hid (X4.out.on hb);have B5 := Lib.hid (Below.step B4.out hb);clear hb;clear p0 p1 p2 p3 p4 p5;obtain ⟨p0, p1, p2, p3, p4, p5⟩ := X5.out.cells;go_wp2_with fail
  go_ret
  exact ⟨ret_bool HF.out.symm, B5.out⟩
set_option maxRecDepth 100000 in
set_option maxHeartbeats 4000000 in
theorem prRight_any (x : Pr) (S : Nat → Prop) (w : World) (c0 c1 c2 : Value) (hS : ∀ k, S k → k < w.heap.size) (hx : RepPr S w x c0 c1 c2) :
  Calls Tryz.prog 31 #[.agg #[c0, c1, c2]] w fun e w' => e = .returned (.bool (prB x)) ∧ Below w.heap.size w w' := by
 have HD := Lib.hid hx.1; have HFA := Lib.hid hx.2.1; have HR := Lib.hid hx.2.2
 obtain ⟨fa, fc, rfl⟩ := SlG.form hx.1;obtain ⟨ga, gc, rfl⟩ := SlG.form hx.2.1;obtain ⟨ha, hc, rfl⟩ := SlG.form hx.2.2;clear hx
 cases h1 : listB 0 64 deB x.decls with
 | false =>
  have HF : Hid (prB x = false) := by show _ = _; rw [prB, h1]; rfl
  have H1 := Lib.hid h1; clear h1
  go_enter Tryz.func31, Tryz.ntmps31
  go_wp2_with fail
  have x1 := boxPr_new w (.slice fa x.decls.length fc) (.slice ga x.facts.length gc) (.slice ha x.rules.length hc);have b1 := below_alloc w (.cells #[.slice fa x.decls.length fc, .slice ga x.facts.length gc, .slice ha x.rules.length hc] 28);generalize w.alloc (.cells #[.slice fa x.decls.length fc, .slice ga x.facts.length gc, .slice ha x.rules.length hc] 28) = w1 at *;have X1 := Lib.hid x1; have B1 := Lib.hid b1
  clear x1 b1;obtain ⟨p0, p1, p2⟩ := X1.out.cells;refine (rl_decls x.decls 0 64 deB S _ _ (fun k hk => Nat.lt_of_lt_of_le (hS k hk) B1.out.size) (RepDes.on (fun _ h => h) (fun k hk => B1.out.block k (hS k hk)) HD.out) (fun wr hb z _ hz => rightDecl_any z S wr _ _ (fun k hk => Nat.lt_of_lt_of_le (Nat.lt_of_lt_of_le (hS k hk) B1.out.size) hb.size) hz)).mono ?_;rw [H1.out];rintro e w2 ⟨rfl, hb⟩;have X2 := Lib.hid (X1.out.on hb);have B2 := Lib.hid (Below.step B1.out hb);clear hb;clear p0 p1 p2;obtain ⟨p0, p1, p2⟩ := X2.out.cells;go_wp2_with fail
  go_ret
  exact ⟨ret_bool HF.out.symm, B2.out⟩
 | true =>
 cases h2 : listB 0 64 faB x.facts with
 | false =>
  have HF : Hid (prB x = false) := by show _ = _; rw [prB, h1, h2]; rfl
  have H1 := Lib.hid h1; clear h1
  have H2 := Lib.hid h2; clear h2
  go_enter Tryz.func31, Tryz.ntmps31
  go_wp2_with fail
  have x1 := boxPr_new w (.slice fa x.decls.length fc) (.slice ga x.facts.length gc) (.slice ha x.rules.length hc);have b1 := below_alloc w (.cells #[.slice fa x.decls.length fc, .slice ga x.facts.length gc, .slice ha x.rules.length hc] 28);generalize w.alloc (.cells #[.slice fa x.decls.length fc, .slice ga x.facts.length gc, .slice ha x.rules.length hc] 28) = w1 at *;have X1 := Lib.hid x1; have B1 := Lib.hid b1
  clear x1 b1;obtain ⟨p0, p1, p2⟩ := X1.out.cells;refine (rl_decls x.decls 0 64 deB S _ _ (fun k hk => Nat.lt_of_lt_of_le (hS k hk) B1.out.size) (RepDes.on (fun _ h => h) (fun k hk => B1.out.block k (hS k hk)) HD.out) (fun wr hb z _ hz => rightDecl_any z S wr _ _ (fun k hk => Nat.lt_of_lt_of_le (Nat.lt_of_lt_of_le (hS k hk) B1.out.size) hb.size) hz)).mono ?_;rw [H1.out];rintro e w2 ⟨rfl, hb⟩;have X2 := Lib.hid (X1.out.on hb);have B2 := Lib.hid (Below.step B1.out hb);clear hb;clear p0 p1 p2;obtain ⟨p0, p1, p2⟩ := X2.out.cells;go_wp2_with fail
  refine (rl_facts x.facts 0 64 faB S _ _ (fun k hk => Nat.lt_of_lt_of_le (hS k hk) B2.out.size) (RepFas.on (fun _ h => h) (fun k hk => B2.out.block k (hS k hk)) HFA.out) (fun wr hb z _ ga gc hz => rightTuple_any z S wr _ _ (fun k hk => Nat.lt_of_lt_of_le (Nat.lt_of_lt_of_le (hS k hk) B2.out.size) hb.size) hz)).mono ?_;rw [H2.out];rintro e w3 ⟨rfl, hb⟩;have X3 := Lib.hid (X2.out.on hb);have B3 := Lib.hid (Below.step B2.out hb);clear hb;clear p0 p1 p2;obtain ⟨p0, p1, p2⟩ := X3.out.cells;go_wp2_with fail
  go_ret
  exact ⟨ret_bool HF.out.symm, B3.out⟩
 | true =>
 cases h3 : listB 0 64 ruB x.rules with
 | false =>
  have HF : Hid (prB x = false) := by show _ = _; rw [prB, h1, h2, h3]; rfl
  have H1 := Lib.hid h1; clear h1
  have H2 := Lib.hid h2; clear h2
  have H3 := Lib.hid h3; clear h3
  go_enter Tryz.func31, Tryz.ntmps31
  go_wp2_with fail
  have x1 := boxPr_new w (.slice fa x.decls.length fc) (.slice ga x.facts.length gc) (.slice ha x.rules.length hc);have b1 := below_alloc w (.cells #[.slice fa x.decls.length fc, .slice ga x.facts.length gc, .slice ha x.rules.length hc] 28);generalize w.alloc (.cells #[.slice fa x.decls.length fc, .slice ga x.facts.length gc, .slice ha x.rules.length hc] 28) = w1 at *;have X1 := Lib.hid x1; have B1 := Lib.hid b1
  clear x1 b1;obtain ⟨p0, p1, p2⟩ := X1.out.cells;refine (rl_decls x.decls 0 64 deB S _ _ (fun k hk => Nat.lt_of_lt_of_le (hS k hk) B1.out.size) (RepDes.on (fun _ h => h) (fun k hk => B1.out.block k (hS k hk)) HD.out) (fun wr hb z _ hz => rightDecl_any z S wr _ _ (fun k hk => Nat.lt_of_lt_of_le (Nat.lt_of_lt_of_le (hS k hk) B1.out.size) hb.size) hz)).mono ?_;rw [H1.out];rintro e w2 ⟨rfl, hb⟩;have X2 := Lib.hid (X1.out.on hb);have B2 := Lib.hid (Below.step B1.out hb);clear hb;clear p0 p1 p2;obtain ⟨p0, p1, p2⟩ := X2.out.cells;go_wp2_with fail
  refine (rl_facts x.facts 0 64 faB S _ _ (fun k hk => Nat.lt_of_lt_of_le (hS k hk) B2.out.size) (RepFas.on (fun _ h => h) (fun k hk => B2.out.block k (hS k hk)) HFA.out) (fun wr hb z _ ga gc hz => rightTuple_any z S wr _ _ (fun k hk => Nat.lt_of_lt_of_le (Nat.lt_of_lt_of_le (hS k hk) B2.out.size) hb.size) hz)).mono ?_;rw [H2.out];rintro e w3 ⟨rfl, hb⟩;have X3 := Lib.hid (X2.out.on hb);have B3 := Lib.hid (Below.step B2.out hb);clear hb;clear p0 p1 p2;obtain ⟨p0, p1, p2⟩ := X3.out.cells;go_wp2_with fail
  refine (rl_rules x.rules 0 64 ruB S _ _ (fun k hk => Nat.lt_of_lt_of_le (hS k hk) B3.out.size) (RepRus.on (fun _ h => h) (fun k hk => B3.out.block k (hS k hk)) HR.out) (fun wr hb z _ fa fc ga gc hz => rightRule_any z S wr _ _ _ _ _ _ (fun k hk => Nat.lt_of_lt_of_le (Nat.lt_of_lt_of_le (hS k hk) B3.out.size) hb.size) hz)).mono ?_;rw [H3.out];rintro e w4 ⟨rfl, hb⟩;have X4 := Lib.hid (X3.out.on hb);have B4 := Lib.hid (Below.step B3.out hb);clear hb;clear p0 p1 p2;obtain ⟨p0, p1, p2⟩ := X4.out.cells;go_wp2_with fail
  go_ret
  exact ⟨ret_bool HF.out.symm, B4.out⟩
 | true =>
  have HF : Hid (prB x = true) := by show _ = _; rw [prB, h1, h2, h3]; rfl
  have H1 := Lib.hid h1; clear h1
  have H2 := Lib.hid h2; clear h2
  have H3 := Lib.hid h3; clear h3
  go_enter Tryz.func31, Tryz.ntmps31
  go_wp2_with fail
  have x1 := boxPr_new w (.slice fa x.decls.length fc) (.slice ga x.facts.length gc) (.slice ha x.rules.length hc);have b1 := below_alloc w (.cells #[.slice fa x.decls.length fc, .slice ga x.facts.length gc, .slice ha x.rules.length hc] 28);generalize w.alloc (.cells #[.slice fa x.decls.length fc, .slice ga x.facts.length gc, .slice ha x.rules.length hc] 28) = w1 at *;have X1 := Lib.hid x1; have B1 := Lib.hid b1
  clear x1 b1;obtain ⟨p0, p1, p2⟩ := X1.out.cells;refine (rl_decls x.decls 0 64 deB S _ _ (fun k hk => Nat.lt_of_lt_of_le (hS k hk) B1.out.size) (RepDes.on (fun _ h => h) (fun k hk => B1.out.block k (hS k hk)) HD.out) (fun wr hb z _ hz => rightDecl_any z S wr _ _ (fun k hk => Nat.lt_of_lt_of_le (Nat.lt_of_lt_of_le (hS k hk) B1.out.size) hb.size) hz)).mono ?_;rw [H1.out];rintro e w2 ⟨rfl, hb⟩;have X2 := Lib.hid (X1.out.on hb);have B2 := Lib.hid (Below.step B1.out hb);clear hb;clear p0 p1 p2;obtain ⟨p0, p1, p2⟩ := X2.out.cells;go_wp2_with fail
  refine (rl_facts x.facts 0 64 faB S _ _ (fun k hk => Nat.lt_of_lt_of_le (hS k hk) B2.out.size) (RepFas.on (fun _ h => h) (fun k hk => B2.out.block k (hS k hk)) HFA.out) (fun wr hb z _ ga gc hz => rightTuple_any z S wr _ _ (fun k hk => Nat.lt_of_lt_of_le (Nat.lt_of_lt_of_le (hS k hk) B2.out.size) hb.size) hz)).mono ?_;rw [H2.out];rintro e w3 ⟨rfl, hb⟩;have X3 := Lib.hid (X2.out.on hb);have B3 := Lib.hid (Below.step B2.out hb);clear hb;clear p0 p1 p2;obtain ⟨p0, p1, p2⟩ := X3.out.cells;go_wp2_with fail
  refine (rl_rules x.rules 0 64 ruB S _ _ (fun k hk => Nat.lt_of_lt_of_le (hS k hk) B3.out.size) (RepRus.on (fun _ h => h) (fun k hk => B3.out.block k (hS k hk)) HR.out) (fun wr hb z _ fa fc ga gc hz => rightRule_any z S wr _ _ _ _ _ _ (fun k hk => Nat.lt_of_lt_of_le (Nat.lt_of_lt_of_le (hS k hk) B3.out.size) hb.size) hz)).mono ?_;rw [H3.out];rintro e w4 ⟨rfl, hb⟩;have X4 := Lib.hid (X3.out.on hb);have B4 := Lib.hid (Below.step B3.out hb);clear hb;clear p0 p1 p2;obtain ⟨p0, p1, p2⟩ := X4.out.cells;go_wp2_with fail
  go_ret
  exact ⟨ret_bool HF.out.symm, B4.out⟩
end Go.Proofs.YtjmnnjikmmglpaaGreat
