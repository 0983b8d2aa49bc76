/-
  RfTexts, RfTuple, RfSet, RfRuKit
-/
import Derived.Test.YtgjemmdhamkngaaGreatDoorKG06
import Derived.Test.YtgjemmdhamkngaaGreatDoorK20
import Derived.Test.YtgjemmdhamkngaaGreatDoorK09
namespace Go.Proofs.YtgjemmdhamkngaaGreatDoor
open Go.RowKit
set_option maxRecDepth 100000 in
set_option maxHeartbeats 8000000 in
theorem refTmText_any (x : Tm) (S : Nat → Prop) (w : World) (c0 c1 c2 c3 c4 c5 c6 : Value) (hS : ∀ k, S k → k < w.heap.size) (hx : RepM S w x c0 c1 c2 c3 c4 c5 c6) (hle : rightM 8 x = true → (showM x).length ≤ 140737488355328) :
  Calls Tryz.prog 21 #[.agg #[c0, c1, c2, c3, c4, c5, c6]] w fun e w' => e = .returned (.string ⟨(told (rightM 8 x) (showM x)).toArray⟩) ∧ Below w.heap.size w w' := by
 have HX := Lib.hid hx; have HLE := Lib.hid hle
 obtain ⟨fa, fc, ga, gc, rfl, rfl, rfl, rfl, rfl, rfl, rfl⟩ := hx.form
 clear hx hle
 cases hb : rightM 8 x
 all_goals
  have HB := Lib.hid hb
  clear hb
  go_enter Tryz.func21, Tryz.ntmps21
  go_wp2_with fail
  have x1 := boxM_new w (.int .i64 x.kind) (.string x.name) (.int .i64 x.val.kind) (.int .i64 x.val.num) (.string x.val.text) (.slice fa x.val.list.length fc) (.slice ga x.args.length gc)
  have b1 := below_alloc w (.cells #[.int .i64 x.kind, .string x.name, .int .i64 x.val.kind, .int .i64 x.val.num, .string x.val.text, .slice fa x.val.list.length fc, .slice ga x.args.length gc] 46)
  generalize w.alloc (.cells #[.int .i64 x.kind, .string x.name, .int .i64 x.val.kind, .int .i64 x.val.num, .string x.val.text, .slice fa x.val.list.length fc, .slice ga x.args.length gc] 46) = w1 at *
  have X1 := Lib.hid x1; have B1 := Lib.hid b1
  clear x1 b1
  obtain ⟨p0, p1, p2, p3, p4, p5, p6⟩ := X1.out.cells
  refine (refTm_any 8 (by omega) x S _ _ _ _ _ _ _ _ (fun k hk => Nat.lt_of_lt_of_le (hS k hk) B1.out.size) (RepM.on (fun _ h => h) (fun k hk => B1.out.block k (hS k hk)) x HX.out)).mono ?_
  rw [HB.out]
  rintro e w2 ⟨rfl, hb⟩
  have X2 := Lib.hid (X1.out.on hb)
  have B2 := Lib.hid (Below.step B1.out hb)
  clear hb
  clear p0 p1 p2 p3 p4 p5 p6
  obtain ⟨p0, p1, p2, p3, p4, p5, p6⟩ := X2.out.cells
  go_wp2_with fail
 ·go_ret
  exact ⟨rfl, B2.out⟩
 ·refine (shown_any x 8 S w2 _ _ _ _ _ _ _ (fun k hk => Nat.lt_of_lt_of_le (hS k hk) B2.out.size) (RepM.on (fun _ h => h) (fun k hk => B2.out.block k (hS k hk)) x HX.out) HB.out (HLE.out HB.out)).mono ?_
  rintro e w3 ⟨rfl, hb3⟩
  have B3 := Lib.hid (Below.step B2.out hb3)
  clear hb3
  go_wp2_with fail
  go_ret
  exact ⟨rfl, B3.out⟩
set_option maxRecDepth 100000 in
set_option maxHeartbeats 8000000 in
theorem refLiText_any (x : Li) (S : Nat → Prop) (w : World) (c0 c1 c2 : Value) (hS : ∀ k, S k → k < w.heap.size) (hx : RepLi S w x c0 c1 c2) (hle : liB x = true → (showLi x).length ≤ 140737488355328) :
  Calls Tryz.prog 19 #[.agg #[c0, c1, c2]] w fun e w' => e = .returned (.string ⟨(told (liB x) (showLi x)).toArray⟩) ∧ Below w.heap.size w w' := by
 have HX := Lib.hid hx
 have HL := Lib.hid hx.2.2.2.2
 have hns : x.name.size ≤ maxLen := hx.2.2.2.1
 unfold maxLen at hns
 obtain ⟨ga, gc, rfl, rfl, rfl⟩ := hx.form
 clear hx
 cases hb : liB x with
 | false =>
  have HB := Lib.hid hb
  clear hb hle
  go_enter Tryz.func19, Tryz.ntmps19
  go_wp2_with fail
  have x1 := boxLi_new w (.int .i64 x.kind) (.string x.name) (.slice ga x.args.length gc)
  have b1 := below_alloc w (.cells #[.int .i64 x.kind, .string x.name, .slice ga x.args.length gc] 41)
  generalize w.alloc (.cells #[.int .i64 x.kind, .string x.name, .slice ga x.args.length gc] 41) = w1 at *
  have X1 := Lib.hid x1; have B1 := Lib.hid b1
  clear x1 b1
  obtain ⟨p0, p1, p2⟩ := X1.out.cells
  refine (refLiteral_any x S _ _ _ _ (fun k hk => Nat.lt_of_lt_of_le (hS k hk) B1.out.size) (RepLi.on (fun _ h => h) (fun k hk => B1.out.block k (hS k hk)) HX.out)).mono ?_
  rw [HB.out]
  rintro e w2 ⟨rfl, hb⟩
  have X2 := Lib.hid (X1.out.on hb)
  have B2 := Lib.hid (Below.step B1.out hb)
  clear hb
  clear p0 p1 p2
  obtain ⟨p0, p1, p2⟩ := X2.out.cells
  go_wp2_with fail
  go_ret
  exact ⟨rfl, B2.out⟩
 | true =>
 have HB := Lib.hid hb
 have hsl := hle hb
 have hr := hb
 clear hb hle
 rw [liB] at hr
 by_cases e1 : x.kind = 1
 ·have k1 : (x.kind == 1) = true := by simp [e1]
  have hsh : showLi x = showAtom x.name (x.args.map showM) := by rw [showLi, if_pos e1]
  rw [if_pos e1, atomB, Bool.and_eq_true, Bool.and_eq_true] at hr
  obtain ⟨g1, g2, g3⟩ := listB_bounds hr.2.1
  have hn : x.args.length ≤ 100 := by omega
  have HRA := Lib.hid g3
  rw [hsh, showAtom] at hsl
  rw [showAtom] at hsh
  simp only [List.length_append, List.length_cons, List.length_nil] at hsl
  have HSA : Hid (∀ y ∈ x.args, (showM y).length ≤ 140737488355328) := by
   show ∀ _, _
   intro y hy
   have := sepL_mem_le [44] (x.args.map showM) (showM y) (List.mem_map_of_mem hy)
   omega
  have HJL : Hid ((sepL ((⟨#[44]⟩ : ByteArray).data.toList) (x.args.map showM)).length ≤ 140737488355328) := by show (sepL [44] _).length ≤ _; omega
  obtain ⟨J, hJ⟩ : ∃ J : ByteArray, (⟨(sepL ((⟨#[44]⟩ : ByteArray).data.toList) (x.args.map showM)).toArray⟩ : ByteArray) = J := ⟨_, rfl⟩
  have HJ := Lib.hid hJ
  have hz2 : (sepL [44] (x.args.map showM)).length = J.size := by rw [← hJ, size_mk]
  have hz1 : x.name.data.toList.length = x.name.size := by rw [Array.length_toList]; rfl
  have z1 := strAdd x.name ⟨#[40, 64]⟩ (by show x.name.size + 2 ≤ _; omega)
  have z2 := strAdd (x.name ++ ⟨#[40, 64]⟩) J (by rw [ByteArray.size_append]; show x.name.size + 2 + J.size ≤ _; omega)
  have z3 := strAdd (x.name ++ ⟨#[40, 64]⟩ ++ J) ⟨#[41]⟩ (by rw [ByteArray.size_append, ByteArray.size_append]; show x.name.size + 2 + J.size + 1 ≤ _; omega)
  have HF : Hid ((⟨(told true (showLi x)).toArray⟩ : ByteArray) = x.name ++ ⟨#[40, 64]⟩ ++ J ++ ⟨#[41]⟩) := by
   show _ = _
   rw [told, hsh, ← hJ]
   apply ByteArray.ext
   simp only [ByteArray.data_append]
   simp
  clear hr g1 g2 g3 hsl hsh hz1 hz2 hJ e1 hns
  go_enter Tryz.func19, Tryz.ntmps19
  go_wp2_with fail
  have x1 := boxLi_new w (.int .i64 x.kind) (.string x.name) (.slice ga x.args.length gc)
  have b1 := below_alloc w (.cells #[.int .i64 x.kind, .string x.name, .slice ga x.args.length gc] 41)
  generalize w.alloc (.cells #[.int .i64 x.kind, .string x.name, .slice ga x.args.length gc] 41) = w1 at *
  have X1 := Lib.hid x1; have B1 := Lib.hid b1
  clear x1 b1
  obtain ⟨p0, p1, p2⟩ := X1.out.cells
  refine (refLiteral_any x S _ _ _ _ (fun k hk => Nat.lt_of_lt_of_le (hS k hk) B1.out.size) (RepLi.on (fun _ h => h) (fun k hk => B1.out.block k (hS k hk)) HX.out)).mono ?_
  rw [HB.out]
  rintro e w2 ⟨rfl, hb⟩
  have X2 := Lib.hid (X1.out.on hb)
  have B2 := Lib.hid (Below.step B1.out hb)
  clear hb
  clear p0 p1 p2
  obtain ⟨p0, p1, p2⟩ := X2.out.cells
  go_wp2_with fail
  refine (printed_any x.args (fun y _ => shown_any y) 8 S _ _ (fun k hk => Nat.lt_of_lt_of_le (hS k hk) B2.out.size) (RepMs.on (fun _ h => h) (fun k hk => B2.out.block k (hS k hk)) HL.out) HRA.out HSA.out (by omega)).mono ?_
  rintro e w3 ⟨v, rfl, hov, hb⟩
  have X3 := Lib.hid (X2.out.on hb)
  have B3 := Lib.hid (Below.step B2.out hb)
  have OV := Lib.hid hov
  clear hb hov p0 p1 p2
  obtain ⟨p0, p1, p2⟩ := X3.out.cells
  go_wp2_with fail
  generalize w.heap.size = bt at X3 ⊢
  have HK := Lib.hid (Below.drew (Below.refl w3.heap.size w3))
  go_region_held3 (fun w' => w'.cell? ⟨bt, 0, none⟩ = some (.int .i64 x.kind) ∧ w'.cell? ⟨bt, 1, none⟩ = some (.string x.name) ∧ w'.cell? ⟨bt, 2, none⟩ = some (.slice ga x.args.length gc))
   (first | exact ⟨(X3.out.on HK.out).cells.1, (X3.out.on HK.out).cells.2.1, (X3.out.on HK.out).cells.2.2⟩)
   (first
    | (go_at_call 44; refine (joinedTm_any x.args ⟨#[44]⟩ J _ _ _ (OV.out.stands HK.out) (by omega) HJL.out HJ.out).mono ?_; rintro e w' ⟨rfl, rfl⟩))
  go_wp2_with fail
  go_ret
  exact ⟨ret_ba HF.out.symm, Below.step B3.out HK.out⟩
 have k1 : (x.kind == 1) = false := by simp [e1]
 rw [if_neg e1] at hr
 by_cases e2 : x.kind = 2
 ·have k2 : (x.kind == 2) = true := by simp [e2]
  have hsh : showLi x = 33 :: showAtom x.name (x.args.map showM) := by rw [showLi, if_neg e1, if_pos e2]
  rw [if_pos e2, atomB, Bool.and_eq_true, Bool.and_eq_true] at hr
  obtain ⟨g1, g2, g3⟩ := listB_bounds hr.2.1
  have hn : x.args.length ≤ 100 := by omega
  have HRA := Lib.hid g3
  rw [hsh, showAtom] at hsl
  rw [showAtom] at hsh
  simp only [List.length_append, List.length_cons, List.length_nil] at hsl
  have HSA : Hid (∀ y ∈ x.args, (showM y).length ≤ 140737488355328) := by
   show ∀ _, _
   intro y hy
   have := sepL_mem_le [44] (x.args.map showM) (showM y) (List.mem_map_of_mem hy)
   omega
  have HJL : Hid ((sepL ((⟨#[44]⟩ : ByteArray).data.toList) (x.args.map showM)).length ≤ 140737488355328) := by show (sepL [44] _).length ≤ _; omega
  obtain ⟨J, hJ⟩ : ∃ J : ByteArray, (⟨(sepL ((⟨#[44]⟩ : ByteArray).data.toList) (x.args.map showM)).toArray⟩ : ByteArray) = J := ⟨_, rfl⟩
  have HJ := Lib.hid hJ
  have hz2 : (sepL [44] (x.args.map showM)).length = J.size := by rw [← hJ, size_mk]
  have hz1 : x.name.data.toList.length = x.name.size := by rw [Array.length_toList]; rfl
  have z0 := strAdd ⟨#[33]⟩ x.name (by show 1 + x.name.size ≤ _; omega)
  have z1 := strAdd (⟨#[33]⟩ ++ x.name) ⟨#[40, 64]⟩ (by rw [ByteArray.size_append]; show 1 + x.name.size + 2 ≤ _; omega)
  have z2 := strAdd (⟨#[33]⟩ ++ x.name ++ ⟨#[40, 64]⟩) J (by rw [ByteArray.size_append, ByteArray.size_append]; show 1 + x.name.size + 2 + J.size ≤ _; omega)
  have z3 := strAdd (⟨#[33]⟩ ++ x.name ++ ⟨#[40, 64]⟩ ++ J) ⟨#[41]⟩ (by rw [ByteArray.size_append, ByteArray.size_append, ByteArray.size_append]; show 1 + x.name.size + 2 + J.size + 1 ≤ _; omega)
  have HF : Hid ((⟨(told true (showLi x)).toArray⟩ : ByteArray) = ⟨#[33]⟩ ++ x.name ++ ⟨#[40, 64]⟩ ++ J ++ ⟨#[41]⟩) := by
   show _ = _
   rw [told, hsh, ← hJ]
   apply ByteArray.ext
   simp only [ByteArray.data_append]
   simp
  clear hr g1 g2 g3 hsl hsh hz1 hz2 hJ e1 e2 hns
  go_enter Tryz.func19, Tryz.ntmps19
  go_wp2_with fail
  have x1 := boxLi_new w (.int .i64 x.kind) (.string x.name) (.slice ga x.args.length gc)
  have b1 := below_alloc w (.cells #[.int .i64 x.kind, .string x.name, .slice ga x.args.length gc] 41)
  generalize w.alloc (.cells #[.int .i64 x.kind, .string x.name, .slice ga x.args.length gc] 41) = w1 at *
  have X1 := Lib.hid x1; have B1 := Lib.hid b1
  clear x1 b1
  obtain ⟨p0, p1, p2⟩ := X1.out.cells
  refine (refLiteral_any x S _ _ _ _ (fun k hk => Nat.lt_of_lt_of_le (hS k hk) B1.out.size) (RepLi.on (fun _ h => h) (fun k hk => B1.out.block k (hS k hk)) HX.out)).mono ?_
  rw [HB.out]
  rintro e w2 ⟨rfl, hb⟩
  have X2 := Lib.hid (X1.out.on hb)
  have B2 := Lib.hid (Below.step B1.out hb)
  clear hb
  clear p0 p1 p2
  obtain ⟨p0, p1, p2⟩ := X2.out.cells
  go_wp2_with fail
  refine (printed_any x.args (fun y _ => shown_any y) 8 S _ _ (fun k hk => Nat.lt_of_lt_of_le (hS k hk) B2.out.size) (RepMs.on (fun _ h => h) (fun k hk => B2.out.block k (hS k hk)) HL.out) HRA.out HSA.out (by omega)).mono ?_
  rintro e w3 ⟨v, rfl, hov, hb⟩
  have X3 := Lib.hid (X2.out.on hb)
  have B3 := Lib.hid (Below.step B2.out hb)
  have OV := Lib.hid hov
  clear hb hov p0 p1 p2
  obtain ⟨p0, p1, p2⟩ := X3.out.cells
  go_wp2_with fail
  generalize w.heap.size = bt at X3 ⊢
  have HK := Lib.hid (Below.drew (Below.refl w3.heap.size w3))
  go_region_held3 (fun w' => w'.cell? ⟨bt, 0, none⟩ = some (.int .i64 x.kind) ∧ w'.cell? ⟨bt, 1, none⟩ = some (.string x.name) ∧ w'.cell? ⟨bt, 2, none⟩ = some (.slice ga x.args.length gc))
   (first | exact ⟨(X3.out.on HK.out).cells.1, (X3.out.on HK.out).cells.2.1, (X3.out.on HK.out).cells.2.2⟩)
   (first
    | (go_at_call 44; refine (joinedTm_any x.args ⟨#[44]⟩ J _ _ _ (OV.out.stands HK.out) (by omega) HJL.out HJ.out).mono ?_; rintro e w' ⟨rfl, rfl⟩))
  go_wp2_with fail
  go_ret
  exact ⟨ret_ba HF.out.symm, Below.step B3.out HK.out⟩
 have k2 : (x.kind == 2) = false := by simp [e2]
 rw [if_neg e2] at hr
 by_cases e3 : x.kind = 3
 ·have k3 : (x.kind == 3) = true := by simp [e3]
  have hsh : showLi x = sepL (32 :: (x.name.data.toList ++ [32])) (x.args.map showM) := by rw [showLi, if_neg e1, if_neg e2, if_pos e3]
  rw [if_pos e3, Bool.and_eq_true] at hr
  obtain ⟨g1, g2, g3⟩ := listB_bounds hr.2
  have hn : x.args.length ≤ 100 := by omega
  have HRA := Lib.hid g3
  rw [hsh] at hsl
  have hnm : x.name.size + 2 ≤ 140737488355328 := by
   obtain ⟨a, b, hab⟩ : ∃ a b, x.args = [a, b] := by
    have h2 : x.args.length = 2 := by omega
    match hx : x.args, h2 with
    | [a, b], _ => exact ⟨a, b, rfl⟩
   have hz1 : x.name.data.toList.length = x.name.size := by rw [Array.length_toList]; rfl
   rw [hab] at hsl
   simp only [List.map_cons, List.map_nil, sepL, List.flatten_cons, List.flatten_nil, List.length_append, List.length_cons, List.length_nil] at hsl
   omega
  obtain ⟨B, hB⟩ : ∃ B : ByteArray, (⟨#[32]⟩ : ByteArray) ++ x.name ++ ⟨#[32]⟩ = B := ⟨_, rfl⟩
  have hBd : B.data.toList = 32 :: (x.name.data.toList ++ [32]) := by rw [← hB]; simp only [ByteArray.data_append]; simp
  rw [← hBd] at hsl hsh
  have HSA : Hid (∀ y ∈ x.args, (showM y).length ≤ 140737488355328) := by
   show ∀ _, _
   intro y hy
   have := sepL_mem_le B.data.toList (x.args.map showM) (showM y) (List.mem_map_of_mem hy)
   omega
  have HJL : Hid ((sepL (B.data.toList) (x.args.map showM)).length ≤ 140737488355328) := by show (sepL B.data.toList _).length ≤ _; omega
  obtain ⟨J, hJ⟩ : ∃ J : ByteArray, (⟨(sepL (B.data.toList) (x.args.map showM)).toArray⟩ : ByteArray) = J := ⟨_, rfl⟩
  have HJ := Lib.hid hJ
  have hz2 : (sepL B.data.toList (x.args.map showM)).length = J.size := by rw [← hJ, size_mk]
  have HF : Hid ((⟨(told true (showLi x)).toArray⟩ : ByteArray) = J) := by
   show _ = _
   rw [told, hsh, ← hJ]
  have HBB := Lib.hid hB
  clear hns
  clear hr g1 g2 g3 hsl hsh hz2 hJ e1 e2 e3 hBd hB
  go_enter Tryz.func19, Tryz.ntmps19
  go_wp2_with fail
  have x1 := boxLi_new w (.int .i64 x.kind) (.string x.name) (.slice ga x.args.length gc)
  have b1 := below_alloc w (.cells #[.int .i64 x.kind, .string x.name, .slice ga x.args.length gc] 41)
  generalize w.alloc (.cells #[.int .i64 x.kind, .string x.name, .slice ga x.args.length gc] 41) = w1 at *
  have X1 := Lib.hid x1; have B1 := Lib.hid b1
  clear x1 b1
  obtain ⟨p0, p1, p2⟩ := X1.out.cells
  refine (refLiteral_any x S _ _ _ _ (fun k hk => Nat.lt_of_lt_of_le (hS k hk) B1.out.size) (RepLi.on (fun _ h => h) (fun k hk => B1.out.block k (hS k hk)) HX.out)).mono ?_
  rw [HB.out]
  rintro e w2 ⟨rfl, hb⟩
  have X2 := Lib.hid (X1.out.on hb)
  have B2 := Lib.hid (Below.step B1.out hb)
  clear hb
  clear p0 p1 p2
  obtain ⟨p0, p1, p2⟩ := X2.out.cells
  go_wp2_with fail
  refine (printed_any x.args (fun y _ => shown_any y) 8 S _ _ (fun k hk => Nat.lt_of_lt_of_le (hS k hk) B2.out.size) (RepMs.on (fun _ h => h) (fun k hk => B2.out.block k (hS k hk)) HL.out) HRA.out HSA.out (by omega)).mono ?_
  rintro e w3 ⟨v, rfl, hov, hb⟩
  have X3 := Lib.hid (X2.out.on hb)
  have B3 := Lib.hid (Below.step B2.out hb)
  have OV := Lib.hid hov
  clear hb hov p0 p1 p2
  obtain ⟨p0, p1, p2⟩ := X3.out.cells
  go_wp2_with fail
  rw [HBB.out]
  refine (joinedTm_any x.args B J _ _ _ OV.out (by omega) HJL.out HJ.out).mono ?_
  rintro e w' ⟨rfl, rfl⟩
  go_wp2_with fail
  go_ret
  exact ⟨ret_ba HF.out.symm, B3.out⟩
 have k3 : (x.kind == 3) = false := by simp [e3]
 rw [if_neg e3] at hr
 by_cases e4 : x.kind = 4
 case neg => rw [if_neg e4] at hr; cases hr
 have hsh : showLi x = x.name.data.toList ++ (32 :: 58 :: 61 :: 32 :: ((x.args.map showM).head?.getD [])) := by rw [showLi, if_neg e1, if_neg e2, if_neg e3, if_pos e4]
 rw [if_pos e4, Bool.and_eq_true] at hr
 obtain ⟨g1, g2, g3⟩ := listB_bounds hr.2
 have hn : x.args.length ≤ 100 := by omega
 have HRA := Lib.hid g3
 obtain ⟨t, hargs⟩ : ∃ t, x.args = [t] := List.length_eq_one_iff.1 (by omega)
 rw [hargs] at hsh
 simp only [List.map_cons, List.head?_cons, Option.getD_some] at hsh
 rw [hsh] at hsl
 simp only [List.length_append, List.length_cons] at hsl
 have HSA : Hid (∀ y ∈ x.args, (showM y).length ≤ 140737488355328) := by
  show ∀ _, _
  intro y hy
  rw [hargs] at hy
  rw [List.mem_singleton.1 hy]
  omega
 have hz1 : x.name.data.toList.length = x.name.size := by rw [Array.length_toList]; rfl
 obtain ⟨J, hJ⟩ : ∃ J : ByteArray, showB t = J := ⟨_, rfl⟩
 have hz2 : (showM t).length = J.size := by rw [← hJ, showB, size_mk]
 have hm : x.args.map showB = [J] := by rw [hargs, ← hJ]; rfl
 have HM := Lib.hid hm
 have z1 := strAdd x.name ⟨#[32, 58, 61, 32]⟩ (by show x.name.size + 4 ≤ _; omega)
 have z2 := strAdd (x.name ++ ⟨#[32, 58, 61, 32]⟩) J (by rw [ByteArray.size_append]; show x.name.size + 4 + J.size ≤ _; omega)
 have HF : Hid ((⟨(told true (showLi x)).toArray⟩ : ByteArray) = x.name ++ ⟨#[32, 58, 61, 32]⟩ ++ J) := by
  show _ = _
  rw [told, hsh, ← hJ]
  apply ByteArray.ext
  simp only [ByteArray.data_append]
  simp [showB]
 clear hr g1 g2 g3 hsl hsh hz1 hz2 hJ e1 e2 e3 e4 hns hm hargs
 go_enter Tryz.func19, Tryz.ntmps19
 go_wp2_with fail
 have x1 := boxLi_new w (.int .i64 x.kind) (.string x.name) (.slice ga x.args.length gc)
 have b1 := below_alloc w (.cells #[.int .i64 x.kind, .string x.name, .slice ga x.args.length gc] 41)
 generalize w.alloc (.cells #[.int .i64 x.kind, .string x.name, .slice ga x.args.length gc] 41) = w1 at *
 have X1 := Lib.hid x1; have B1 := Lib.hid b1
 clear x1 b1
 obtain ⟨p0, p1, p2⟩ := X1.out.cells
 refine (refLiteral_any x S _ _ _ _ (fun k hk => Nat.lt_of_lt_of_le (hS k hk) B1.out.size) (RepLi.on (fun _ h => h) (fun k hk => B1.out.block k (hS k hk)) HX.out)).mono ?_
 rw [HB.out]
 rintro e w2 ⟨rfl, hb⟩
 have X2 := Lib.hid (X1.out.on hb)
 have B2 := Lib.hid (Below.step B1.out hb)
 clear hb
 clear p0 p1 p2
 obtain ⟨p0, p1, p2⟩ := X2.out.cells
 go_wp2_with fail
 refine (printed_any x.args (fun y _ => shown_any y) 8 S _ _ (fun k hk => Nat.lt_of_lt_of_le (hS k hk) B2.out.size) (RepMs.on (fun _ h => h) (fun k hk => B2.out.block k (hS k hk)) HL.out) HRA.out HSA.out (by omega)).mono ?_
 rintro e w3 ⟨v, rfl, hov, hb⟩
 have X3 := Lib.hid (X2.out.on hb)
 have B3 := Lib.hid (Below.step B2.out hb)
 have OV := Lib.hid hov
 clear hb hov p0 p1 p2
 obtain ⟨p0, p1, p2⟩ := X3.out.cells
 have hrow := OV.out.rows
 rw [HM.out] at hrow
 obtain ⟨va, vc, rfl, hvc, hva⟩ := hrow
 obtain ⟨vb, vo, rfl, hvcell⟩ := hva (by simp)
 have q0 : w3.cell? ⟨vb, vo, none⟩ = some (.string J) := hvcell 0 (by simp)
 have Q0 := Lib.hid q0
 have Q1 := Lib.hid (hvcell)
 clear hva hvcell q0 OV
 go_wp2_with fail
 generalize w.heap.size = bt at X3 ⊢
 have HK := Lib.hid (Below.drew (Below.refl w3.heap.size w3))
 go_region_held3 (fun w' => w'.cell? ⟨bt, 0, none⟩ = some (.int .i64 x.kind) ∧ w'.cell? ⟨bt, 1, none⟩ = some (.string x.name) ∧ w'.cell? ⟨bt, 2, none⟩ = some (.slice ga x.args.length gc) ∧ w'.cell? ⟨vb, vo, none⟩ = some (.string J))
  (first | exact ⟨(X3.out.on HK.out).cells.1, (X3.out.on HK.out).cells.2.1, (X3.out.on HK.out).cells.2.2, Q0.out⟩)
  (fail)
 go_wp2_with fail
 go_ret
 exact ⟨ret_ba HF.out.symm, Below.step B3.out HK.out⟩
end Go.Proofs.YtgjemmdhamkngaaGreatDoor
namespace Go.Proofs.YtgjemmdhamkngaaGreatDoor
open Go.RowKit
def printT (x : V) : ByteArray := ⟨(printB x).toArray⟩
theorem joinedRow_any (L : List ByteArray) (s J : ByteArray) (v : Value) (b : Nat) (w : World) (h : OwnS w b v L) (hl : L.length ≤ 100) (hlen : (sepL s.data.toList (L.map fun x => x.data.toList)).length ≤ 140737488355328) (hJ : (⟨(sepL s.data.toList (L.map fun x => x.data.toList)).toArray⟩ : ByteArray) = J) :
  Calls Tryz.prog 44 #[v, .string s] w fun e w' => e = .returned (.string J) ∧ w = w' := by
 have h1 := joined_any L s v w h.rows hl hlen
 rw [hJ] at h1
 exact h1
theorem printT_list (l : List V) : ((l.map printT).map fun x => x.data.toList) = l.map printB := by
 rw [List.map_map]; apply List.map_congr_left; intro t _; simp [printT]
set_option maxRecDepth 100000 in
set_option maxHeartbeats 8000000 in
theorem refFaText_any (x : Fa) (S : Nat → Prop) (w : World) (c0 c1 : Value) (hS : ∀ k, S k → k < w.heap.size) (hx : RepFa S w x c0 c1) (hle : faB x = true → (showFa x).length ≤ 140737488355328) :
  Calls Tryz.prog 15 #[.agg #[c0, c1]] w fun e w' => e = .returned (.string ⟨(told (faB x) (showFa x)).toArray⟩) ∧ Below w.heap.size w w' := by
 have HX := Lib.hid hx
 have HL := Lib.hid hx.2.2
 obtain ⟨ga, gc, rfl, rfl⟩ := hx.form
 clear hx
 cases hb : faB x with
 | false =>
  have HB := Lib.hid hb
  clear hb hle
  go_enter Tryz.func15, Tryz.ntmps15
  go_wp2_with fail
  have x1 := boxFa_new w (.string x.name) (.slice ga x.args.length gc)
  have b1 := below_alloc w (.cells #[.string x.name, .slice ga x.args.length gc] 33)
  generalize w.alloc (.cells #[.string x.name, .slice ga x.args.length gc] 33) = w1 at *
  have X1 := Lib.hid x1; have B1 := Lib.hid b1
  clear x1 b1
  obtain ⟨p0, p1⟩ := X1.out.cells
  refine (refTuple_any x S _ _ _ (fun k hk => Nat.lt_of_lt_of_le (hS k hk) B1.out.size) (RepFa.on (fun _ h => h) (fun k hk => B1.out.block k (hS k hk)) HX.out)).mono ?_
  rw [HB.out]
  rintro e w2 ⟨rfl, hb⟩
  have X2 := Lib.hid (X1.out.on hb)
  have B2 := Lib.hid (Below.step B1.out hb)
  clear hb
  clear p0 p1
  obtain ⟨p0, p1⟩ := X2.out.cells
  go_wp2_with fail
  go_ret
  exact ⟨rfl, B2.out⟩
 | true =>
 have HB := Lib.hid hb
 have hsl := hle hb
 have hr := hb
 clear hb hle
 rw [faB, Bool.and_eq_true, Bool.and_eq_true] at hr
 obtain ⟨g1, g2, g3⟩ := listB_bounds hr.2.1
 have hn : x.args.length ≤ 8 := by omega
 have hsh : showFa x = showAtom x.name (x.args.map printB) ++ [46] := rfl
 rw [hsh, showAtom] at hsl
 rw [showAtom] at hsh
 simp only [List.length_append, List.length_cons, List.length_nil] at hsl
 have HJL : Hid ((sepL (⟨#[44]⟩ : ByteArray).data.toList ((x.args.map printT).map fun x => x.data.toList)).length ≤ 140737488355328) := by show (sepL [44] _).length ≤ _; rw [printT_list]; omega
 obtain ⟨J, hJ⟩ : ∃ J : ByteArray, (⟨(sepL (⟨#[44]⟩ : ByteArray).data.toList ((x.args.map printT).map fun x => x.data.toList)).toArray⟩ : ByteArray) = J := ⟨_, rfl⟩
 have HJ := Lib.hid hJ
 rw [printT_list] at hJ
 have hz2 : (sepL [44] (x.args.map printB)).length = J.size := by rw [← hJ, size_mk]
 have hz1 : x.name.data.toList.length = x.name.size := by rw [Array.length_toList]; rfl
 have z1 := strAdd x.name ⟨#[40, 64]⟩ (by show x.name.size + 2 ≤ _; omega)
 have z2 := strAdd (x.name ++ ⟨#[40, 64]⟩) J (by rw [ByteArray.size_append]; show x.name.size + 2 + J.size ≤ _; omega)
 have z3 := strAdd (x.name ++ ⟨#[40, 64]⟩ ++ J) ⟨#[41, 46]⟩ (by rw [ByteArray.size_append, ByteArray.size_append]; show x.name.size + 2 + J.size + 2 ≤ _; omega)
 have Z1 := Lib.hid z1; have Z2 := Lib.hid z2; have Z3 := Lib.hid z3
 have HF : Hid ((⟨(told true (showFa x)).toArray⟩ : ByteArray) = x.name ++ ⟨#[40, 64]⟩ ++ J ++ ⟨#[41, 46]⟩) := by
  show _ = _
  rw [told, hsh, ← hJ]
  apply ByteArray.ext
  simp only [ByteArray.data_append]
  simp
 clear hr g1 g2 g3 hsl hsh hz1 hz2 hJ z1 z2 z3
 go_enter Tryz.func15, Tryz.ntmps15
 go_wp2_with fail
 have x1 := boxFa_new w (.string x.name) (.slice ga x.args.length gc)
 have b1 := below_alloc w (.cells #[.string x.name, .slice ga x.args.length gc] 33)
 generalize w.alloc (.cells #[.string x.name, .slice ga x.args.length gc] 33) = w1 at *
 have X1 := Lib.hid x1; have B1 := Lib.hid b1
 clear x1 b1
 obtain ⟨p0, p1⟩ := X1.out.cells
 refine (refTuple_any x S _ _ _ (fun k hk => Nat.lt_of_lt_of_le (hS k hk) B1.out.size) (RepFa.on (fun _ h => h) (fun k hk => B1.out.block k (hS k hk)) HX.out)).mono ?_
 rw [HB.out]
 rintro e w2 ⟨rfl, hb⟩
 have X2 := Lib.hid (X1.out.on hb)
 have B2 := Lib.hid (Below.step B1.out hb)
 clear hb
 clear p0 p1
 obtain ⟨p0, p1⟩ := X2.out.cells
 go_wp2_with fail
 have HSZ := Lib.hid (fun k (hk : S k) => Nat.lt_of_lt_of_le (hS k hk) B2.out.size)
 have HLS := Lib.hid (RepLG.on (fun _ h => h) (fun k hk => B2.out.block k (hS k hk)) HL.out : RepLG S w2 x.args (.slice ga x.args.length gc))
 clear p0 p1
 go_loopw [4, 5] (fun v i wr => ∃ k : Nat, k ≤ x.args.length ∧ i = .int .i64 k ∧ OwnS wr w2.heap.size v ((x.args.take k).map printT) ∧ Below w2.heap.size w2 wr) (fun _ i _ => x.args.length - (intOf i).toNat)
 case atStart => exact ⟨0, Nat.zero_le _, rfl, OwnS.nil _ _, Below.refl _ _⟩
 case round =>
  obtain ⟨k, hk, rfl, hown, hbel⟩ := hrel
  have XR := Lib.hid (X2.out.on hbel); have HBEL := Lib.hid hbel
  have HO := Lib.hid hown
  obtain ⟨oa, oc, rfl⟩ := hown.form
  clear hown
  have hol : ((x.args.take k).map printT).length = k := by rw [List.length_map, List.length_take]; omega
  rw [hol] at HO ⊢
  obtain ⟨p0, p1⟩ := XR.out.cells
  by_cases hl : k < x.args.length
  ·have hA := (RepLG.on (fun _ h => h) (fun j hj => hbel.block j (HSZ.out j hj)) HLS.out : RepLG S wr x.args (.slice ga x.args.length gc))
   obtain ⟨-, hcap2, lb2, lo2, fa2, fc2, hga2, -, g0, g1, g2, g3, g⟩ := RepLG.at hA k hl
   rw [hga2] at p1
   have G := Lib.hid g; have HGA2 := Lib.hid hga2
   have HTK : Hid ((x.args.take (k + 1)).map printT = (x.args.take k).map printT ++ [printT x.args[k]]) := by
    show _ = _
    rw [List.take_succ_eq_append_getElem hl, List.map_append]; rfl
   clear hA g hga2 hbel hol
   generalize x.args[k] = y at *
   go_wp2_with fail
   refine (refPrint_any y wr.heap.size wr _ _ _ _ (Nat.le_refl _) (RepG.on (fun j hj => Nat.lt_of_lt_of_le (HSZ.out j hj) HBEL.out.size) (fun _ _ => rfl) y G.out)).mono ?_
   rintro e w3 ⟨rfl, hb⟩
   have HB3 := Lib.hid (Below.step HBEL.out hb)
   have HO3 := Lib.hid (HO.out.stands hb)
   clear hb p0 p1 g0 g1 g2 g3
   have hlk : ((x.args.take k).map printT).length ≤ 1000000 := by rw [List.length_map, List.length_take]; omega
   obtain ⟨sb, hsb⟩ : ∃ sb, printT y = sb := ⟨_, rfl⟩
   rw [show (⟨(printB y).toArray⟩ : ByteArray) = sb from hsb]
   rw [hsb] at HTK
   clear hsb
   obtain ⟨a6, n6, c6, w6, hrun, ho6, hb6⟩ := str_append HO3.out HB3.out.size hlk sb 74
   have HRUN := Lib.hid hrun; have HO6 := Lib.hid ho6; have HB6 := Lib.hid (HB3.out.trans hb6)
   clear hrun ho6 hb6 hlk
   go_wp2_with (at_builtin; refine wpList_append_byS rfl _ _ _ rfl rfl rfl HRUN.out ?_)
   go_roundw
   case rel => exact ⟨k + 1, by omega, by go_num, by rw [HTK.out]; exact HO6.out, HB6.out⟩
   case measure => simp [intOf]; omega
  ·have HT : Hid ((x.args.take k).map printT = x.args.map printT) := by show _ = _; rw [List.take_of_length_le (by omega)]
   have OV := Lib.hid HO.out
   rw [HT.out] at OV
   have z1 := Z1.out; have z2 := Z2.out; have z3 := Z3.out
   have hll : (x.args.map printT).length ≤ 100 := by rw [List.length_map]; omega
   have HLL := Lib.hid hll
   have B3 := Lib.hid (Below.step B2.out hbel)
   clear hll hbel
   go_wp2_with fail
   generalize w.heap.size = bt at XR ⊢
   have HK := Lib.hid (Below.drew (Below.refl wr.heap.size wr))
   go_region_held3 (fun w' => w'.cell? ⟨bt, 0, none⟩ = some (.string x.name) ∧ w'.cell? ⟨bt, 1, none⟩ = some (.slice ga x.args.length gc))
    (first | exact ⟨(XR.out.on HK.out).cells.1, (XR.out.on HK.out).cells.2⟩)
    (first
     | (go_at_call 44; refine (joinedRow_any (x.args.map printT) ⟨#[44]⟩ J _ _ _ (OV.out.stands HK.out) HLL.out HJL.out HJ.out).mono ?_; rintro e w' ⟨rfl, rfl⟩))
   go_wp2_with fail
   go_ret
   exact ⟨ret_ba HF.out.symm, Below.step B3.out HK.out⟩
end Go.Proofs.YtgjemmdhamkngaaGreatDoor
namespace Go.Proofs.YtgjemmdhamkngaaGreatDoor
open Go.RowKit
def headRow (x : Ru) : List ByteArray := ((x.args.map showM).mapIdx fun i t => aggAt x i t).map fun l => ⟨l.toArray⟩
theorem headRow_data (x : Ru) : ((headRow x).map fun b => b.data.toList) = (x.args.map showM).mapIdx fun i t => aggAt x i t := by
 rw [headRow, List.map_map]
 conv => rhs; rw [← List.map_id ((x.args.map showM).mapIdx fun i t => aggAt x i t)]
 apply List.map_congr_left; intro t _; simp
theorem headRow_length (x : Ru) : (headRow x).length = x.args.length := by simp [headRow]
theorem headRow_none {x : Ru} (h : x.agg.toList.isEmpty = true) : headRow x = x.args.map showB := by
 apply List.ext_getElem
 ·simp [headRow]
 ·intro i h1 h2
  simp only [headRow, List.getElem_map, List.getElem_mapIdx, aggAt, if_pos (Or.inl h : x.agg.toList.isEmpty = true ∨ (i : Int) ≠ x.at')]
  rfl
theorem headRow_some {x : Ru} {k : Nat} (h : x.agg.toList.isEmpty = false) (ha : x.at' = (k : Int)) (hk : k < x.args.length) : headRow x = (x.args.map showB).set k (x.agg ++ ⟨#[60]⟩ ++ showB x.args[k] ++ ⟨#[62]⟩) := by
 apply List.ext_getElem
 ·simp [headRow]
 ·intro i h1 h2
  rw [List.getElem_set]
  by_cases e : k = i
  ·subst e
   rw [if_pos rfl]
   simp only [headRow, List.getElem_map, List.getElem_mapIdx]
   rw [aggAt, if_neg (by rw [h, ha]; simp)]
   apply ByteArray.ext
   simp only [ByteArray.data_append]
   simp [showB]
  ·rw [if_neg e]
   simp only [headRow, List.getElem_map, List.getElem_mapIdx]
   rw [aggAt, if_pos (.inr (by rw [ha]; omega))]
   rfl
theorem OwnS.set {w : World} {base g cap : Nat} {l : List ByteArray} (h : OwnS w base (.slice (some ⟨g, 0, none⟩) l.length cap) l) {k : Nat} (hk : k < l.length) (s : ByteArray) : OwnS (w.setCell ⟨g, k, none⟩ (.string s)) base (.slice (some ⟨g, 0, none⟩) l.length cap) (l.set k s) := by
 obtain ⟨hlen, hown⟩ := h
 rcases hown with ⟨h1, hn⟩ | ⟨g', cap', cur, h1, hbg, hh, hnc, hcm, hcs, htk⟩
 ·omega
 ·cases h1
  refine ⟨by simp [strCells], .inr ⟨g, cap, cur.setIfInBounds k (.string s), by rw [List.length_set], hbg, ?_, by rw [List.length_set]; exact hnc, hcm, by rw [Array.size_setIfInBounds]; exact hcs, ?_⟩⟩
  ·exact heap_setCell_same _ _ _ _ _ _ hh
  ·rw [List.length_set, strCells, List.map_set, ← strCells, ← htk, Array.toList_setIfInBounds]
   rw [List.take_set]
end Go.Proofs.YtgjemmdhamkngaaGreatDoor
namespace Go.Proofs.YtgjemmdhamkngaaGreatDoor
open Go.RowKit
def showLB (y : Li) : ByteArray := ⟨(showLi y).toArray⟩
theorem showLB_list (l : List Li) : ((l.map showLB).map fun x => x.data.toList) = l.map showLi := by
 rw [List.map_map]; apply List.map_congr_left; intro t _; simp [showLB]
end Go.Proofs.YtgjemmdhamkngaaGreatDoor
