/-
  The document's own texts of layer 4: Term, Literal.
-/
import Derived.Test.YtgjemmdhamkngaaGreatDoorW11
import Derived.Test.YtgjemmdhamkngaaGreatDoorW14
import Derived.Test.YtgjemmdhamkngaaGreatDoorW04
namespace Go.Proofs.YtgjemmdhamkngaaGreatDoor
open Go.RowKit

set_option maxRecDepth 100000 in
set_option maxHeartbeats 8000000 in
theorem refTmText_any (x : Tm) (S : Nat → Prop) (w : World) (c0 c1 c2 c3 c4 c5 c6 : Value) (hS : ∀ k, S k → k < w.heap.size) (hx : RepM S w x c0 c1 c2 c3 c4 c5 c6) (hle : rightM 8 x = true → (showM x).length ≤ 140737488355328) :
    Calls Tryz.prog 21 #[.agg #[c0, c1, c2, c3, c4, c5, c6]] w fun e w' => e = .returned (.string ⟨(told (rightM 8 x) (showM x)).toArray⟩) ∧ Below w.heap.size w w' := by
  have HX := Lib.hid hx; have HLE := Lib.hid hle
  obtain ⟨fa, fc, ga, gc, rfl, rfl, rfl, rfl, rfl, rfl, rfl⟩ := hx.form
  clear hx hle
  cases hb : rightM 8 x
  all_goals
    have HB := Lib.hid hb
    clear hb
    go_enter Tryz.func21, Tryz.ntmps21
    go_wp2_with fail
    have x1 := boxM_new w (.int .i64 x.kind) (.string x.name) (.int .i64 x.val.kind) (.int .i64 x.val.num) (.string x.val.text) (.slice fa x.val.list.length fc) (.slice ga x.args.length gc)
    have b1 := below_alloc w (.cells #[.int .i64 x.kind, .string x.name, .int .i64 x.val.kind, .int .i64 x.val.num, .string x.val.text, .slice fa x.val.list.length fc, .slice ga x.args.length gc] 46)
    generalize w.alloc (.cells #[.int .i64 x.kind, .string x.name, .int .i64 x.val.kind, .int .i64 x.val.num, .string x.val.text, .slice fa x.val.list.length fc, .slice ga x.args.length gc] 46) = w1 at *
    have X1 := Lib.hid x1; have B1 := Lib.hid b1
    clear x1 b1
    obtain ⟨p0, p1, p2, p3, p4, p5, p6⟩ := X1.out.cells
    refine (refTm_any 8 (by omega) x S _ _ _ _ _ _ _ _ (fun k hk => Nat.lt_of_lt_of_le (hS k hk) B1.out.size) (RepM.on (fun _ h => h) (fun k hk => B1.out.block k (hS k hk)) x HX.out)).mono ?_
    rw [HB.out]
    rintro e w2 ⟨rfl, hb⟩
    have X2 := Lib.hid (X1.out.on hb)
    have B2 := Lib.hid (Below.step B1.out hb)
    clear hb
    clear p0 p1 p2 p3 p4 p5 p6
    obtain ⟨p0, p1, p2, p3, p4, p5, p6⟩ := X2.out.cells
    go_wp2_with fail
  · go_ret
    exact ⟨rfl, B2.out⟩
  · refine (shown_any x 8 S w2 _ _ _ _ _ _ _ (fun k hk => Nat.lt_of_lt_of_le (hS k hk) B2.out.size) (RepM.on (fun _ h => h) (fun k hk => B2.out.block k (hS k hk)) x HX.out) HB.out (HLE.out HB.out)).mono ?_
    rintro e w3 ⟨rfl, hb3⟩
    have B3 := Lib.hid (Below.step B2.out hb3)
    clear hb3
    go_wp2_with fail
    go_ret
    exact ⟨rfl, B3.out⟩

set_option maxRecDepth 100000 in
set_option maxHeartbeats 8000000 in
theorem refLiText_any (x : Li) (S : Nat → Prop) (w : World) (c0 c1 c2 : Value) (hS : ∀ k, S k → k < w.heap.size) (hx : RepLi S w x c0 c1 c2) (hle : liB x = true → (showLi x).length ≤ 140737488355328) :
    Calls Tryz.prog 19 #[.agg #[c0, c1, c2]] w fun e w' => e = .returned (.string ⟨(told (liB x) (showLi x)).toArray⟩) ∧ Below w.heap.size w w' := by
  have HX := Lib.hid hx
  have HL := Lib.hid hx.2.2.2.2
  have hns : x.name.size ≤ maxLen := hx.2.2.2.1
  unfold maxLen at hns
  obtain ⟨ga, gc, rfl, rfl, rfl⟩ := hx.form
  clear hx
  cases hb : liB x with
  | false =>
    have HB := Lib.hid hb
    clear hb hle
    go_enter Tryz.func19, Tryz.ntmps19
    go_wp2_with fail
    have x1 := boxLi_new w (.int .i64 x.kind) (.string x.name) (.slice ga x.args.length gc)
    have b1 := below_alloc w (.cells #[.int .i64 x.kind, .string x.name, .slice ga x.args.length gc] 41)
    generalize w.alloc (.cells #[.int .i64 x.kind, .string x.name, .slice ga x.args.length gc] 41) = w1 at *
    have X1 := Lib.hid x1; have B1 := Lib.hid b1
    clear x1 b1
    obtain ⟨p0, p1, p2⟩ := X1.out.cells
    refine (refLiteral_any x S _ _ _ _ (fun k hk => Nat.lt_of_lt_of_le (hS k hk) B1.out.size) (RepLi.on (fun _ h => h) (fun k hk => B1.out.block k (hS k hk)) HX.out)).mono ?_
    rw [HB.out]
    rintro e w2 ⟨rfl, hb⟩
    have X2 := Lib.hid (X1.out.on hb)
    have B2 := Lib.hid (Below.step B1.out hb)
    clear hb
    clear p0 p1 p2
    obtain ⟨p0, p1, p2⟩ := X2.out.cells
    go_wp2_with fail
    go_ret
    exact ⟨rfl, B2.out⟩
  | true =>
  have HB := Lib.hid hb
  have hsl := hle hb
  have hr := hb
  clear hb hle
  rw [liB] at hr
  by_cases e1 : x.kind = 1
  · have k1 : (x.kind == 1) = true := by simp [e1]
    have hsh : showLi x = showAtom x.name (x.args.map showM) := by rw [showLi, if_pos e1]
    rw [if_pos e1, atomB, Bool.and_eq_true, Bool.and_eq_true] at hr
    obtain ⟨g1, g2, g3⟩ := listB_bounds hr.2.1
    have hn : x.args.length ≤ 100 := by omega
    have HRA := Lib.hid g3
    rw [hsh, showAtom] at hsl
    rw [showAtom] at hsh
    simp only [List.length_append, List.length_cons, List.length_nil] at hsl
    have HSA : Hid (∀ y ∈ x.args, (showM y).length ≤ 140737488355328) := by
      show ∀ _, _
      intro y hy
      have := sepL_mem_le [44] (x.args.map showM) (showM y) (List.mem_map_of_mem hy)
      omega
    have HJL : Hid ((sepL ((⟨#[44]⟩ : ByteArray).data.toList) (x.args.map showM)).length ≤ 140737488355328) := by show (sepL [44] _).length ≤ _; omega
    obtain ⟨J, hJ⟩ : ∃ J : ByteArray, (⟨(sepL ((⟨#[44]⟩ : ByteArray).data.toList) (x.args.map showM)).toArray⟩ : ByteArray) = J := ⟨_, rfl⟩
    have HJ := Lib.hid hJ
    have hz2 : (sepL [44] (x.args.map showM)).length = J.size := by rw [← hJ, size_mk]
    have hz1 : x.name.data.toList.length = x.name.size := by rw [Array.length_toList]; rfl
    have z1 := strAdd x.name ⟨#[40, 64]⟩ (by show x.name.size + 2 ≤ _; omega)
    have z2 := strAdd (x.name ++ ⟨#[40, 64]⟩) J (by rw [ByteArray.size_append]; show x.name.size + 2 + J.size ≤ _; omega)
    have z3 := strAdd (x.name ++ ⟨#[40, 64]⟩ ++ J) ⟨#[41]⟩ (by rw [ByteArray.size_append, ByteArray.size_append]; show x.name.size + 2 + J.size + 1 ≤ _; omega)
    have HF : Hid ((⟨(told true (showLi x)).toArray⟩ : ByteArray) = x.name ++ ⟨#[40, 64]⟩ ++ J ++ ⟨#[41]⟩) := by
      show _ = _
      rw [told, hsh, ← hJ]
      apply ByteArray.ext
      simp only [ByteArray.data_append]
      simp
    clear hr g1 g2 g3 hsl hsh hz1 hz2 hJ e1 hns
    go_enter Tryz.func19, Tryz.ntmps19
    go_wp2_with fail
    have x1 := boxLi_new w (.int .i64 x.kind) (.string x.name) (.slice ga x.args.length gc)
    have b1 := below_alloc w (.cells #[.int .i64 x.kind, .string x.name, .slice ga x.args.length gc] 41)
    generalize w.alloc (.cells #[.int .i64 x.kind, .string x.name, .slice ga x.args.length gc] 41) = w1 at *
    have X1 := Lib.hid x1; have B1 := Lib.hid b1
    clear x1 b1
    obtain ⟨p0, p1, p2⟩ := X1.out.cells
    refine (refLiteral_any x S _ _ _ _ (fun k hk => Nat.lt_of_lt_of_le (hS k hk) B1.out.size) (RepLi.on (fun _ h => h) (fun k hk => B1.out.block k (hS k hk)) HX.out)).mono ?_
    rw [HB.out]
    rintro e w2 ⟨rfl, hb⟩
    have X2 := Lib.hid (X1.out.on hb)
    have B2 := Lib.hid (Below.step B1.out hb)
    clear hb
    clear p0 p1 p2
    obtain ⟨p0, p1, p2⟩ := X2.out.cells
    go_wp2_with fail
    refine (printed_any x.args (fun y _ => shown_any y) 8 S _ _ (fun k hk => Nat.lt_of_lt_of_le (hS k hk) B2.out.size) (RepMs.on (fun _ h => h) (fun k hk => B2.out.block k (hS k hk)) HL.out) HRA.out HSA.out (by omega)).mono ?_
    rintro e w3 ⟨v, rfl, hov, hb⟩
    have X3 := Lib.hid (X2.out.on hb)
    have B3 := Lib.hid (Below.step B2.out hb)
    have OV := Lib.hid hov
    clear hb hov p0 p1 p2
    obtain ⟨p0, p1, p2⟩ := X3.out.cells
    go_wp2_with fail
    generalize w.heap.size = bt at X3 ⊢
    have HK := Lib.hid (Below.drew (Below.refl w3.heap.size w3))
    go_region_held3 (fun w' => w'.cell? ⟨bt, 0, none⟩ = some (.int .i64 x.kind) ∧ w'.cell? ⟨bt, 1, none⟩ = some (.string x.name) ∧ w'.cell? ⟨bt, 2, none⟩ = some (.slice ga x.args.length gc))
      (first | exact ⟨(X3.out.on HK.out).cells.1, (X3.out.on HK.out).cells.2.1, (X3.out.on HK.out).cells.2.2⟩)
      (first
        | (go_at_call 44; refine (joinedTm_any x.args ⟨#[44]⟩ J _ _ _ (OV.out.stands HK.out) (by omega) HJL.out HJ.out).mono ?_; rintro e w' ⟨rfl, rfl⟩))
    go_wp2_with fail
    go_ret
    exact ⟨ret_ba HF.out.symm, Below.step B3.out HK.out⟩
  have k1 : (x.kind == 1) = false := by simp [e1]
  rw [if_neg e1] at hr
  by_cases e2 : x.kind = 2
  · have k2 : (x.kind == 2) = true := by simp [e2]
    have hsh : showLi x = 33 :: showAtom x.name (x.args.map showM) := by rw [showLi, if_neg e1, if_pos e2]
    rw [if_pos e2, atomB, Bool.and_eq_true, Bool.and_eq_true] at hr
    obtain ⟨g1, g2, g3⟩ := listB_bounds hr.2.1
    have hn : x.args.length ≤ 100 := by omega
    have HRA := Lib.hid g3
    rw [hsh, showAtom] at hsl
    rw [showAtom] at hsh
    simp only [List.length_append, List.length_cons, List.length_nil] at hsl
    have HSA : Hid (∀ y ∈ x.args, (showM y).length ≤ 140737488355328) := by
      show ∀ _, _
      intro y hy
      have := sepL_mem_le [44] (x.args.map showM) (showM y) (List.mem_map_of_mem hy)
      omega
    have HJL : Hid ((sepL ((⟨#[44]⟩ : ByteArray).data.toList) (x.args.map showM)).length ≤ 140737488355328) := by show (sepL [44] _).length ≤ _; omega
    obtain ⟨J, hJ⟩ : ∃ J : ByteArray, (⟨(sepL ((⟨#[44]⟩ : ByteArray).data.toList) (x.args.map showM)).toArray⟩ : ByteArray) = J := ⟨_, rfl⟩
    have HJ := Lib.hid hJ
    have hz2 : (sepL [44] (x.args.map showM)).length = J.size := by rw [← hJ, size_mk]
    have hz1 : x.name.data.toList.length = x.name.size := by rw [Array.length_toList]; rfl
    have z0 := strAdd ⟨#[33]⟩ x.name (by show 1 + x.name.size ≤ _; omega)
    have z1 := strAdd (⟨#[33]⟩ ++ x.name) ⟨#[40, 64]⟩ (by rw [ByteArray.size_append]; show 1 + x.name.size + 2 ≤ _; omega)
    have z2 := strAdd (⟨#[33]⟩ ++ x.name ++ ⟨#[40, 64]⟩) J (by rw [ByteArray.size_append, ByteArray.size_append]; show 1 + x.name.size + 2 + J.size ≤ _; omega)
    have z3 := strAdd (⟨#[33]⟩ ++ x.name ++ ⟨#[40, 64]⟩ ++ J) ⟨#[41]⟩ (by rw [ByteArray.size_append, ByteArray.size_append, ByteArray.size_append]; show 1 + x.name.size + 2 + J.size + 1 ≤ _; omega)
    have HF : Hid ((⟨(told true (showLi x)).toArray⟩ : ByteArray) = ⟨#[33]⟩ ++ x.name ++ ⟨#[40, 64]⟩ ++ J ++ ⟨#[41]⟩) := by
      show _ = _
      rw [told, hsh, ← hJ]
      apply ByteArray.ext
      simp only [ByteArray.data_append]
      simp
    clear hr g1 g2 g3 hsl hsh hz1 hz2 hJ e1 e2 hns
    go_enter Tryz.func19, Tryz.ntmps19
    go_wp2_with fail
    have x1 := boxLi_new w (.int .i64 x.kind) (.string x.name) (.slice ga x.args.length gc)
    have b1 := below_alloc w (.cells #[.int .i64 x.kind, .string x.name, .slice ga x.args.length gc] 41)
    generalize w.alloc (.cells #[.int .i64 x.kind, .string x.name, .slice ga x.args.length gc] 41) = w1 at *
    have X1 := Lib.hid x1; have B1 := Lib.hid b1
    clear x1 b1
    obtain ⟨p0, p1, p2⟩ := X1.out.cells
    refine (refLiteral_any x S _ _ _ _ (fun k hk => Nat.lt_of_lt_of_le (hS k hk) B1.out.size) (RepLi.on (fun _ h => h) (fun k hk => B1.out.block k (hS k hk)) HX.out)).mono ?_
    rw [HB.out]
    rintro e w2 ⟨rfl, hb⟩
    have X2 := Lib.hid (X1.out.on hb)
    have B2 := Lib.hid (Below.step B1.out hb)
    clear hb
    clear p0 p1 p2
    obtain ⟨p0, p1, p2⟩ := X2.out.cells
    go_wp2_with fail
    refine (printed_any x.args (fun y _ => shown_any y) 8 S _ _ (fun k hk => Nat.lt_of_lt_of_le (hS k hk) B2.out.size) (RepMs.on (fun _ h => h) (fun k hk => B2.out.block k (hS k hk)) HL.out) HRA.out HSA.out (by omega)).mono ?_
    rintro e w3 ⟨v, rfl, hov, hb⟩
    have X3 := Lib.hid (X2.out.on hb)
    have B3 := Lib.hid (Below.step B2.out hb)
    have OV := Lib.hid hov
    clear hb hov p0 p1 p2
    obtain ⟨p0, p1, p2⟩ := X3.out.cells
    go_wp2_with fail
    generalize w.heap.size = bt at X3 ⊢
    have HK := Lib.hid (Below.drew (Below.refl w3.heap.size w3))
    go_region_held3 (fun w' => w'.cell? ⟨bt, 0, none⟩ = some (.int .i64 x.kind) ∧ w'.cell? ⟨bt, 1, none⟩ = some (.string x.name) ∧ w'.cell? ⟨bt, 2, none⟩ = some (.slice ga x.args.length gc))
      (first | exact ⟨(X3.out.on HK.out).cells.1, (X3.out.on HK.out).cells.2.1, (X3.out.on HK.out).cells.2.2⟩)
      (first
        | (go_at_call 44; refine (joinedTm_any x.args ⟨#[44]⟩ J _ _ _ (OV.out.stands HK.out) (by omega) HJL.out HJ.out).mono ?_; rintro e w' ⟨rfl, rfl⟩))
    go_wp2_with fail
    go_ret
    exact ⟨ret_ba HF.out.symm, Below.step B3.out HK.out⟩
  have k2 : (x.kind == 2) = false := by simp [e2]
  rw [if_neg e2] at hr
  by_cases e3 : x.kind = 3
  · have k3 : (x.kind == 3) = true := by simp [e3]
    have hsh : showLi x = sepL (32 :: (x.name.data.toList ++ [32])) (x.args.map showM) := by rw [showLi, if_neg e1, if_neg e2, if_pos e3]
    rw [if_pos e3, Bool.and_eq_true] at hr
    obtain ⟨g1, g2, g3⟩ := listB_bounds hr.2
    have hn : x.args.length ≤ 100 := by omega
    have HRA := Lib.hid g3
    rw [hsh] at hsl
    have hnm : x.name.size + 2 ≤ 140737488355328 := by
      obtain ⟨a, b, hab⟩ : ∃ a b, x.args = [a, b] := by
        have h2 : x.args.length = 2 := by omega
        match hx : x.args, h2 with
        | [a, b], _ => exact ⟨a, b, rfl⟩
      have hz1 : x.name.data.toList.length = x.name.size := by rw [Array.length_toList]; rfl
      rw [hab] at hsl
      simp only [List.map_cons, List.map_nil, sepL, List.flatten_cons, List.flatten_nil, List.length_append, List.length_cons, List.length_nil] at hsl
      omega
    obtain ⟨B, hB⟩ : ∃ B : ByteArray, (⟨#[32]⟩ : ByteArray) ++ x.name ++ ⟨#[32]⟩ = B := ⟨_, rfl⟩
    have hBd : B.data.toList = 32 :: (x.name.data.toList ++ [32]) := by rw [← hB]; simp only [ByteArray.data_append]; simp
    rw [← hBd] at hsl hsh
    have HSA : Hid (∀ y ∈ x.args, (showM y).length ≤ 140737488355328) := by
      show ∀ _, _
      intro y hy
      have := sepL_mem_le B.data.toList (x.args.map showM) (showM y) (List.mem_map_of_mem hy)
      omega
    have HJL : Hid ((sepL (B.data.toList) (x.args.map showM)).length ≤ 140737488355328) := by show (sepL B.data.toList _).length ≤ _; omega
    obtain ⟨J, hJ⟩ : ∃ J : ByteArray, (⟨(sepL (B.data.toList) (x.args.map showM)).toArray⟩ : ByteArray) = J := ⟨_, rfl⟩
    have HJ := Lib.hid hJ
    have hz2 : (sepL B.data.toList (x.args.map showM)).length = J.size := by rw [← hJ, size_mk]
    have HF : Hid ((⟨(told true (showLi x)).toArray⟩ : ByteArray) = J) := by
      show _ = _
      rw [told, hsh, ← hJ]
    have HBB := Lib.hid hB
    clear hns
    clear hr g1 g2 g3 hsl hsh hz2 hJ e1 e2 e3 hBd hB
    go_enter Tryz.func19, Tryz.ntmps19
    go_wp2_with fail
    have x1 := boxLi_new w (.int .i64 x.kind) (.string x.name) (.slice ga x.args.length gc)
    have b1 := below_alloc w (.cells #[.int .i64 x.kind, .string x.name, .slice ga x.args.length gc] 41)
    generalize w.alloc (.cells #[.int .i64 x.kind, .string x.name, .slice ga x.args.length gc] 41) = w1 at *
    have X1 := Lib.hid x1; have B1 := Lib.hid b1
    clear x1 b1
    obtain ⟨p0, p1, p2⟩ := X1.out.cells
    refine (refLiteral_any x S _ _ _ _ (fun k hk => Nat.lt_of_lt_of_le (hS k hk) B1.out.size) (RepLi.on (fun _ h => h) (fun k hk => B1.out.block k (hS k hk)) HX.out)).mono ?_
    rw [HB.out]
    rintro e w2 ⟨rfl, hb⟩
    have X2 := Lib.hid (X1.out.on hb)
    have B2 := Lib.hid (Below.step B1.out hb)
    clear hb
    clear p0 p1 p2
    obtain ⟨p0, p1, p2⟩ := X2.out.cells
    go_wp2_with fail
    refine (printed_any x.args (fun y _ => shown_any y) 8 S _ _ (fun k hk => Nat.lt_of_lt_of_le (hS k hk) B2.out.size) (RepMs.on (fun _ h => h) (fun k hk => B2.out.block k (hS k hk)) HL.out) HRA.out HSA.out (by omega)).mono ?_
    rintro e w3 ⟨v, rfl, hov, hb⟩
    have X3 := Lib.hid (X2.out.on hb)
    have B3 := Lib.hid (Below.step B2.out hb)
    have OV := Lib.hid hov
    clear hb hov p0 p1 p2
    obtain ⟨p0, p1, p2⟩ := X3.out.cells
    go_wp2_with fail
    rw [HBB.out]
    refine (joinedTm_any x.args B J _ _ _ OV.out (by omega) HJL.out HJ.out).mono ?_
    rintro e w' ⟨rfl, rfl⟩
    go_wp2_with fail
    go_ret
    exact ⟨ret_ba HF.out.symm, B3.out⟩
  have k3 : (x.kind == 3) = false := by simp [e3]
  rw [if_neg e3] at hr
  by_cases e4 : x.kind = 4
  case neg => rw [if_neg e4] at hr; cases hr
  have hsh : showLi x = x.name.data.toList ++ (32 :: 58 :: 61 :: 32 :: ((x.args.map showM).head?.getD [])) := by rw [showLi, if_neg e1, if_neg e2, if_neg e3, if_pos e4]
  rw [if_pos e4, Bool.and_eq_true] at hr
  obtain ⟨g1, g2, g3⟩ := listB_bounds hr.2
  have hn : x.args.length ≤ 100 := by omega
  have HRA := Lib.hid g3
  obtain ⟨t, hargs⟩ : ∃ t, x.args = [t] := List.length_eq_one_iff.1 (by omega)
  rw [hargs] at hsh
  simp only [List.map_cons, List.head?_cons, Option.getD_some] at hsh
  rw [hsh] at hsl
  simp only [List.length_append, List.length_cons] at hsl
  have HSA : Hid (∀ y ∈ x.args, (showM y).length ≤ 140737488355328) := by
    show ∀ _, _
    intro y hy
    rw [hargs] at hy
    rw [List.mem_singleton.1 hy]
    omega
  have hz1 : x.name.data.toList.length = x.name.size := by rw [Array.length_toList]; rfl
  obtain ⟨J, hJ⟩ : ∃ J : ByteArray, showB t = J := ⟨_, rfl⟩
  have hz2 : (showM t).length = J.size := by rw [← hJ, showB, size_mk]
  have hm : x.args.map showB = [J] := by rw [hargs, ← hJ]; rfl
  have HM := Lib.hid hm
  have z1 := strAdd x.name ⟨#[32, 58, 61, 32]⟩ (by show x.name.size + 4 ≤ _; omega)
  have z2 := strAdd (x.name ++ ⟨#[32, 58, 61, 32]⟩) J (by rw [ByteArray.size_append]; show x.name.size + 4 + J.size ≤ _; omega)
  have HF : Hid ((⟨(told true (showLi x)).toArray⟩ : ByteArray) = x.name ++ ⟨#[32, 58, 61, 32]⟩ ++ J) := by
    show _ = _
    rw [told, hsh, ← hJ]
    apply ByteArray.ext
    simp only [ByteArray.data_append]
    simp [showB]
  clear hr g1 g2 g3 hsl hsh hz1 hz2 hJ e1 e2 e3 e4 hns hm hargs
  go_enter Tryz.func19, Tryz.ntmps19
  go_wp2_with fail
  have x1 := boxLi_new w (.int .i64 x.kind) (.string x.name) (.slice ga x.args.length gc)
  have b1 := below_alloc w (.cells #[.int .i64 x.kind, .string x.name, .slice ga x.args.length gc] 41)
  generalize w.alloc (.cells #[.int .i64 x.kind, .string x.name, .slice ga x.args.length gc] 41) = w1 at *
  have X1 := Lib.hid x1; have B1 := Lib.hid b1
  clear x1 b1
  obtain ⟨p0, p1, p2⟩ := X1.out.cells
  refine (refLiteral_any x S _ _ _ _ (fun k hk => Nat.lt_of_lt_of_le (hS k hk) B1.out.size) (RepLi.on (fun _ h => h) (fun k hk => B1.out.block k (hS k hk)) HX.out)).mono ?_
  rw [HB.out]
  rintro e w2 ⟨rfl, hb⟩
  have X2 := Lib.hid (X1.out.on hb)
  have B2 := Lib.hid (Below.step B1.out hb)
  clear hb
  clear p0 p1 p2
  obtain ⟨p0, p1, p2⟩ := X2.out.cells
  go_wp2_with fail
  refine (printed_any x.args (fun y _ => shown_any y) 8 S _ _ (fun k hk => Nat.lt_of_lt_of_le (hS k hk) B2.out.size) (RepMs.on (fun _ h => h) (fun k hk => B2.out.block k (hS k hk)) HL.out) HRA.out HSA.out (by omega)).mono ?_
  rintro e w3 ⟨v, rfl, hov, hb⟩
  have X3 := Lib.hid (X2.out.on hb)
  have B3 := Lib.hid (Below.step B2.out hb)
  have OV := Lib.hid hov
  clear hb hov p0 p1 p2
  obtain ⟨p0, p1, p2⟩ := X3.out.cells
  have hrow := OV.out.rows
  rw [HM.out] at hrow
  obtain ⟨va, vc, rfl, hvc, hva⟩ := hrow
  obtain ⟨vb, vo, rfl, hvcell⟩ := hva (by simp)
  have q0 : w3.cell? ⟨vb, vo, none⟩ = some (.string J) := hvcell 0 (by simp)
  have Q0 := Lib.hid q0
  have Q1 := Lib.hid (hvcell)
  clear hva hvcell q0 OV
  go_wp2_with fail
  generalize w.heap.size = bt at X3 ⊢
  have HK := Lib.hid (Below.drew (Below.refl w3.heap.size w3))
  go_region_held3 (fun w' => w'.cell? ⟨bt, 0, none⟩ = some (.int .i64 x.kind) ∧ w'.cell? ⟨bt, 1, none⟩ = some (.string x.name) ∧ w'.cell? ⟨bt, 2, none⟩ = some (.slice ga x.args.length gc) ∧ w'.cell? ⟨vb, vo, none⟩ = some (.string J))
    (first | exact ⟨(X3.out.on HK.out).cells.1, (X3.out.on HK.out).cells.2.1, (X3.out.on HK.out).cells.2.2, Q0.out⟩)
    (fail)
  go_wp2_with fail
  go_ret
  exact ⟨ret_ba HF.out.symm, Below.step B3.out HK.out⟩

end Go.Proofs.YtgjemmdhamkngaaGreatDoor

/-
  The document's own texts of layer 4: Tuple.
-/
namespace Go.Proofs.YtgjemmdhamkngaaGreatDoor
open Go.RowKit

def printT (x : V) : ByteArray := ⟨(printB x).toArray⟩
theorem joinedRow_any (L : List ByteArray) (s J : ByteArray) (v : Value) (b : Nat) (w : World) (h : OwnS w b v L) (hl : L.length ≤ 100) (hlen : (sepL s.data.toList (L.map fun x => x.data.toList)).length ≤ 140737488355328) (hJ : (⟨(sepL s.data.toList (L.map fun x => x.data.toList)).toArray⟩ : ByteArray) = J) :
    Calls Tryz.prog 44 #[v, .string s] w fun e w' => e = .returned (.string J) ∧ w = w' := by
  have h1 := joined_any L s v w h.rows hl hlen
  rw [hJ] at h1
  exact h1
theorem printT_list (l : List V) : ((l.map printT).map fun x => x.data.toList) = l.map printB := by
  rw [List.map_map]; apply List.map_congr_left; intro t _; simp [printT]

set_option maxRecDepth 100000 in
set_option maxHeartbeats 8000000 in
theorem refFaText_any (x : Fa) (S : Nat → Prop) (w : World) (c0 c1 : Value) (hS : ∀ k, S k → k < w.heap.size) (hx : RepFa S w x c0 c1) (hle : faB x = true → (showFa x).length ≤ 140737488355328) :
    Calls Tryz.prog 15 #[.agg #[c0, c1]] w fun e w' => e = .returned (.string ⟨(told (faB x) (showFa x)).toArray⟩) ∧ Below w.heap.size w w' := by
  have HX := Lib.hid hx
  have HL := Lib.hid hx.2.2
  obtain ⟨ga, gc, rfl, rfl⟩ := hx.form
  clear hx
  cases hb : faB x with
  | false =>
    have HB := Lib.hid hb
    clear hb hle
    go_enter Tryz.func15, Tryz.ntmps15
    go_wp2_with fail
    have x1 := boxFa_new w (.string x.name) (.slice ga x.args.length gc)
    have b1 := below_alloc w (.cells #[.string x.name, .slice ga x.args.length gc] 33)
    generalize w.alloc (.cells #[.string x.name, .slice ga x.args.length gc] 33) = w1 at *
    have X1 := Lib.hid x1; have B1 := Lib.hid b1
    clear x1 b1
    obtain ⟨p0, p1⟩ := X1.out.cells
    refine (refTuple_any x S _ _ _ (fun k hk => Nat.lt_of_lt_of_le (hS k hk) B1.out.size) (RepFa.on (fun _ h => h) (fun k hk => B1.out.block k (hS k hk)) HX.out)).mono ?_
    rw [HB.out]
    rintro e w2 ⟨rfl, hb⟩
    have X2 := Lib.hid (X1.out.on hb)
    have B2 := Lib.hid (Below.step B1.out hb)
    clear hb
    clear p0 p1
    obtain ⟨p0, p1⟩ := X2.out.cells
    go_wp2_with fail
    go_ret
    exact ⟨rfl, B2.out⟩
  | true =>
  have HB := Lib.hid hb
  have hsl := hle hb
  have hr := hb
  clear hb hle
  rw [faB, Bool.and_eq_true, Bool.and_eq_true] at hr
  obtain ⟨g1, g2, g3⟩ := listB_bounds hr.2.1
  have hn : x.args.length ≤ 8 := by omega
  have hsh : showFa x = showAtom x.name (x.args.map printB) ++ [46] := rfl
  rw [hsh, showAtom] at hsl
  rw [showAtom] at hsh
  simp only [List.length_append, List.length_cons, List.length_nil] at hsl
  have HJL : Hid ((sepL (⟨#[44]⟩ : ByteArray).data.toList ((x.args.map printT).map fun x => x.data.toList)).length ≤ 140737488355328) := by show (sepL [44] _).length ≤ _; rw [printT_list]; omega
  obtain ⟨J, hJ⟩ : ∃ J : ByteArray, (⟨(sepL (⟨#[44]⟩ : ByteArray).data.toList ((x.args.map printT).map fun x => x.data.toList)).toArray⟩ : ByteArray) = J := ⟨_, rfl⟩
  have HJ := Lib.hid hJ
  rw [printT_list] at hJ
  have hz2 : (sepL [44] (x.args.map printB)).length = J.size := by rw [← hJ, size_mk]
  have hz1 : x.name.data.toList.length = x.name.size := by rw [Array.length_toList]; rfl
  have z1 := strAdd x.name ⟨#[40, 64]⟩ (by show x.name.size + 2 ≤ _; omega)
  have z2 := strAdd (x.name ++ ⟨#[40, 64]⟩) J (by rw [ByteArray.size_append]; show x.name.size + 2 + J.size ≤ _; omega)
  have z3 := strAdd (x.name ++ ⟨#[40, 64]⟩ ++ J) ⟨#[41, 46]⟩ (by rw [ByteArray.size_append, ByteArray.size_append]; show x.name.size + 2 + J.size + 2 ≤ _; omega)
  have Z1 := Lib.hid z1; have Z2 := Lib.hid z2; have Z3 := Lib.hid z3
  have HF : Hid ((⟨(told true (showFa x)).toArray⟩ : ByteArray) = x.name ++ ⟨#[40, 64]⟩ ++ J ++ ⟨#[41, 46]⟩) := by
    show _ = _
    rw [told, hsh, ← hJ]
    apply ByteArray.ext
    simp only [ByteArray.data_append]
    simp
  clear hr g1 g2 g3 hsl hsh hz1 hz2 hJ z1 z2 z3
  go_enter Tryz.func15, Tryz.ntmps15
  go_wp2_with fail
  have x1 := boxFa_new w (.string x.name) (.slice ga x.args.length gc)
  have b1 := below_alloc w (.cells #[.string x.name, .slice ga x.args.length gc] 33)
  generalize w.alloc (.cells #[.string x.name, .slice ga x.args.length gc] 33) = w1 at *
  have X1 := Lib.hid x1; have B1 := Lib.hid b1
  clear x1 b1
  obtain ⟨p0, p1⟩ := X1.out.cells
  refine (refTuple_any x S _ _ _ (fun k hk => Nat.lt_of_lt_of_le (hS k hk) B1.out.size) (RepFa.on (fun _ h => h) (fun k hk => B1.out.block k (hS k hk)) HX.out)).mono ?_
  rw [HB.out]
  rintro e w2 ⟨rfl, hb⟩
  have X2 := Lib.hid (X1.out.on hb)
  have B2 := Lib.hid (Below.step B1.out hb)
  clear hb
  clear p0 p1
  obtain ⟨p0, p1⟩ := X2.out.cells
  go_wp2_with fail
  have HSZ := Lib.hid (fun k (hk : S k) => Nat.lt_of_lt_of_le (hS k hk) B2.out.size)
  have HLS := Lib.hid (RepLG.on (fun _ h => h) (fun k hk => B2.out.block k (hS k hk)) HL.out : RepLG S w2 x.args (.slice ga x.args.length gc))
  clear p0 p1
  go_loopw [4, 5] (fun v i wr => ∃ k : Nat, k ≤ x.args.length ∧ i = .int .i64 k ∧ OwnS wr w2.heap.size v ((x.args.take k).map printT) ∧ Below w2.heap.size w2 wr) (fun _ i _ => x.args.length - (intOf i).toNat)
  case atStart => exact ⟨0, Nat.zero_le _, rfl, OwnS.nil _ _, Below.refl _ _⟩
  case round =>
    obtain ⟨k, hk, rfl, hown, hbel⟩ := hrel
    have XR := Lib.hid (X2.out.on hbel); have HBEL := Lib.hid hbel
    have HO := Lib.hid hown
    obtain ⟨oa, oc, rfl⟩ := hown.form
    clear hown
    have hol : ((x.args.take k).map printT).length = k := by rw [List.length_map, List.length_take]; omega
    rw [hol] at HO ⊢
    obtain ⟨p0, p1⟩ := XR.out.cells
    by_cases hl : k < x.args.length
    · have hA := (RepLG.on (fun _ h => h) (fun j hj => hbel.block j (HSZ.out j hj)) HLS.out : RepLG S wr x.args (.slice ga x.args.length gc))
      obtain ⟨-, hcap2, lb2, lo2, fa2, fc2, hga2, -, g0, g1, g2, g3, g⟩ := RepLG.at hA k hl
      rw [hga2] at p1
      have G := Lib.hid g; have HGA2 := Lib.hid hga2
      have HTK : Hid ((x.args.take (k + 1)).map printT = (x.args.take k).map printT ++ [printT x.args[k]]) := by
        show _ = _
        rw [List.take_succ_eq_append_getElem hl, List.map_append]; rfl
      clear hA g hga2 hbel hol
      generalize x.args[k] = y at *
      go_wp2_with fail
      refine (refPrint_any y wr.heap.size wr _ _ _ _ (Nat.le_refl _) (RepG.on (fun j hj => Nat.lt_of_lt_of_le (HSZ.out j hj) HBEL.out.size) (fun _ _ => rfl) y G.out)).mono ?_
      rintro e w3 ⟨rfl, hb⟩
      have HB3 := Lib.hid (Below.step HBEL.out hb)
      have HO3 := Lib.hid (HO.out.stands hb)
      clear hb p0 p1 g0 g1 g2 g3
      have hlk : ((x.args.take k).map printT).length ≤ 1000000 := by rw [List.length_map, List.length_take]; omega
      obtain ⟨sb, hsb⟩ : ∃ sb, printT y = sb := ⟨_, rfl⟩
      rw [show (⟨(printB y).toArray⟩ : ByteArray) = sb from hsb]
      rw [hsb] at HTK
      clear hsb
      obtain ⟨a6, n6, c6, w6, hrun, ho6, hb6⟩ := str_append HO3.out HB3.out.size hlk sb 74
      have HRUN := Lib.hid hrun; have HO6 := Lib.hid ho6; have HB6 := Lib.hid (HB3.out.trans hb6)
      clear hrun ho6 hb6 hlk
      go_wp2_with (at_builtin; refine wpList_append_byS rfl _ _ _ rfl rfl rfl HRUN.out ?_)
      go_roundw
      case rel => exact ⟨k + 1, by omega, by go_num, by rw [HTK.out]; exact HO6.out, HB6.out⟩
      case measure => simp [intOf]; omega
    · have HT : Hid ((x.args.take k).map printT = x.args.map printT) := by show _ = _; rw [List.take_of_length_le (by omega)]
      have OV := Lib.hid HO.out
      rw [HT.out] at OV
      have z1 := Z1.out; have z2 := Z2.out; have z3 := Z3.out
      have hll : (x.args.map printT).length ≤ 100 := by rw [List.length_map]; omega
      have HLL := Lib.hid hll
      have B3 := Lib.hid (Below.step B2.out hbel)
      clear hll hbel
      go_wp2_with fail
      generalize w.heap.size = bt at XR ⊢
      have HK := Lib.hid (Below.drew (Below.refl wr.heap.size wr))
      go_region_held3 (fun w' => w'.cell? ⟨bt, 0, none⟩ = some (.string x.name) ∧ w'.cell? ⟨bt, 1, none⟩ = some (.slice ga x.args.length gc))
        (first | exact ⟨(XR.out.on HK.out).cells.1, (XR.out.on HK.out).cells.2⟩)
        (first
          | (go_at_call 44; refine (joinedRow_any (x.args.map printT) ⟨#[44]⟩ J _ _ _ (OV.out.stands HK.out) HLL.out HJL.out HJ.out).mono ?_; rintro e w' ⟨rfl, rfl⟩))
      go_wp2_with fail
      go_ret
      exact ⟨ret_ba HF.out.symm, Below.step B3.out HK.out⟩

end Go.Proofs.YtgjemmdhamkngaaGreatDoor

/-
  The texts of a head's arguments, as a row in which one is set anew.
-/
namespace Go.Proofs.YtgjemmdhamkngaaGreatDoor
open Go.RowKit

def headRow (x : Ru) : List ByteArray := ((x.args.map showM).mapIdx fun i t => aggAt x i t).map fun l => ⟨l.toArray⟩
theorem headRow_data (x : Ru) : ((headRow x).map fun b => b.data.toList) = (x.args.map showM).mapIdx fun i t => aggAt x i t := by
  rw [headRow, List.map_map]
  conv => rhs; rw [← List.map_id ((x.args.map showM).mapIdx fun i t => aggAt x i t)]
  apply List.map_congr_left; intro t _; simp
theorem headRow_length (x : Ru) : (headRow x).length = x.args.length := by simp [headRow]
theorem headRow_none {x : Ru} (h : x.agg.toList.isEmpty = true) : headRow x = x.args.map showB := by
  apply List.ext_getElem
  · simp [headRow]
  · intro i h1 h2
    simp only [headRow, List.getElem_map, List.getElem_mapIdx, aggAt, if_pos (Or.inl h : x.agg.toList.isEmpty = true ∨ (i : Int) ≠ x.at')]
    rfl
theorem headRow_some {x : Ru} {k : Nat} (h : x.agg.toList.isEmpty = false) (ha : x.at' = (k : Int)) (hk : k < x.args.length) : headRow x = (x.args.map showB).set k (x.agg ++ ⟨#[60]⟩ ++ showB x.args[k] ++ ⟨#[62]⟩) := by
  apply List.ext_getElem
  · simp [headRow]
  · intro i h1 h2
    rw [List.getElem_set]
    by_cases e : k = i
    · subst e
      rw [if_pos rfl]
      simp only [headRow, List.getElem_map, List.getElem_mapIdx]
      rw [aggAt, if_neg (by rw [h, ha]; simp)]
      apply ByteArray.ext
      simp only [ByteArray.data_append]
      simp [showB]
    · rw [if_neg e]
      simp only [headRow, List.getElem_map, List.getElem_mapIdx]
      rw [aggAt, if_pos (.inr (by rw [ha]; omega))]
      rfl
theorem OwnS.set {w : World} {base g cap : Nat} {l : List ByteArray} (h : OwnS w base (.slice (some ⟨g, 0, none⟩) l.length cap) l) {k : Nat} (hk : k < l.length) (s : ByteArray) : OwnS (w.setCell ⟨g, k, none⟩ (.string s)) base (.slice (some ⟨g, 0, none⟩) l.length cap) (l.set k s) := by
  obtain ⟨hlen, hown⟩ := h
  rcases hown with ⟨h1, hn⟩ | ⟨g', cap', cur, h1, hbg, hh, hnc, hcm, hcs, htk⟩
  · omega
  · cases h1
    refine ⟨by simp [strCells], .inr ⟨g, cap, cur.setIfInBounds k (.string s), by rw [List.length_set], hbg, ?_, by rw [List.length_set]; exact hnc, hcm, by rw [Array.size_setIfInBounds]; exact hcs, ?_⟩⟩
    · exact heap_setCell_same _ _ _ _ _ _ hh
    · rw [List.length_set, strCells, List.map_set, ← strCells, ← htk, Array.toList_setIfInBounds]
      rw [List.take_set]

end Go.Proofs.YtgjemmdhamkngaaGreatDoor

/-
  A region that draws its order, whose last operation hangs on all the others (a store): by facts that stand, and what that one does.
-/
namespace Go.Proofs.YtgjemmdhamkngaaGreatDoor
open Go

section
variable {P : Program} {ops : Array Oper} {Q : Exit → Act → World → Prop}

/-- Each operation but the last has a result of its own, each waits for earlier ones alone, and each is waited for by a later one. -/
def okOpsL (ops : Array Oper) (n : Nat) : Bool :=
  (List.range ops.size).all fun i => match ops[i]? with
    | none => true
    | some o => o.after.all (fun e => decide (e.on < i)) && (i + 1 == ops.size || ((match o.dst with | some d => decide (d < n) | none => false) &&
      (List.range ops.size).all (fun j => j == i || (match ops[j]? with | some o' => !(o'.dst == o.dst) | none => true)) &&
      (List.range ops.size).any (fun j => match ops[j]? with | some o' => o'.after.any (fun e => Region.binds .any e && e.on == i) | none => false)))
theorem okOpsL.at {n i : Nat} {o : Oper} (h : okOpsL ops n = true) (ho : ops[i]? = some o) : (∀ e ∈ o.after, e.on < i) ∧ (i + 1 < ops.size → (∃ d, o.dst = some d ∧ d < n) ∧ (∀ j o', ops[j]? = some o' → j ≠ i → o'.dst ≠ o.dst) ∧ ∃ (j : Nat) (o' : Oper), ops[j]? = some o' ∧ ∃ e ∈ o'.after, Region.binds .any e = true ∧ e.on = i) := by
  unfold okOpsL at h
  rw [List.all_eq_true] at h
  have h1 := h i (List.mem_range.2 (Array.getElem?_eq_some_iff.1 ho).1)
  rw [ho] at h1
  simp only [Bool.and_eq_true, Bool.or_eq_true, beq_iff_eq] at h1
  obtain ⟨g3, g⟩ := h1
  refine ⟨fun e he => of_decide_eq_true (Array.all_eq_true_iff_forall_mem.1 g3 e he), fun hlt => ?_⟩
  rcases g with g | ⟨⟨g2, g4⟩, g5⟩
  · omega
  refine ⟨?_, ?_, ?_⟩
  · split at g2
    · rename_i d hd; exact ⟨d, hd, of_decide_eq_true g2⟩
    · cases g2
  · intro j o' hj hne he
    rw [List.all_eq_true] at g4
    have h2 := g4 j (List.mem_range.2 (Array.getElem?_eq_some_iff.1 hj).1)
    rw [hj] at h2
    simp [hne, he] at h2
  · obtain ⟨j, _, hj2⟩ := List.any_eq_true.1 g5
    split at hj2
    · rename_i o' ho'
      obtain ⟨e, he, hb⟩ := Array.any_eq_true'.1 hj2
      simp only [Bool.and_eq_true, beq_iff_eq] at hb
      exact ⟨j, o', ho', e, he, hb.1, hb.2⟩
    · cases hj2

/-- What is asked of one operation but the last: what it reads stands but for the results of the others. -/
def StepL (P : Program) (ops : Array Oper) (A : Act) (F : World → Nat → Value → Prop) (G : World → Prop) (Q : Exit → Act → World → Prop) (i : Nat) (o : Oper) : Prop :=
  ∀ (a : Act) (w : World), Off ops.pop A a → G w →
    (∀ (j : Nat) (o' : Oper) (d : Tmp), (o.after.any fun e => Region.binds .any e && e.on == j) = true → ops[j]? = some o' → o'.dst = some d → ∃ v, a.tmps[d]? = some v ∧ F w j v) →
    ∀ K : Act → World → Prop, Shut (∀ v w', G w' → F w' i v → (∀ j u, F w j u → F w' j u) → K (a.put o.dst v) w') → if Region.wanted o (yielded ops a.tmps) = true then Oper.wp P o a w K Q else K (a.put o.dst undef) w
def StepsL (P : Program) (ops : Array Oper) (A : Act) (F : World → Nat → Value → Prop) (G : World → Prop) (Q : Exit → Act → World → Prop) : Nat → List Oper → Prop
  | _, [] => True
  | i, o :: os => StepL P ops A F G Q i o ∧ StepsL P ops A F G Q (i + 1) os
theorem StepsL.at {A : Act} {F : World → Nat → Value → Prop} {G : World → Prop} : ∀ (os : List Oper) (k i : Nat) (o : Oper), StepsL P ops A F G Q k os → os[i]? = some o → StepL P ops A F G Q (k + i) o
  | [], _, _, _, _, h => by simp at h
  | x :: os, k, 0, o, hs, h => by simp at h; subst h; exact hs.1
  | x :: os, k, i + 1, o, hs, h => by
    have := StepsL.at os (k + 1) i o hs.2 (by simpa using h)
    rw [show k + (i + 1) = k + 1 + i by omega]; exact this

theorem wp_region_factsL {id : Nat} {A : Act} {w : World} (hm : P.follows .mixedOrders = true) (n : Nat) (hn : A.tmps.size = n) (hok : okOpsL ops n = true) (F : World → Nat → Value → Prop) (G : World → Prop) (hG : G w.drew)
    (hsteps : StepsL P ops A F G Q 0 ops.toList.dropLast)
    {o : Oper} (hback : ops.back? = some o) (hlast : ∀ a w, Off ops.pop A a → G w → (∀ (i : Nat) (o : Oper) (d : Tmp), i + 1 < ops.size → ops[i]? = some o → o.dst = some d → ∃ v, a.tmps[d]? = some v ∧ F w i v) → if Region.wanted o (yielded ops a.tmps) = true then Oper.wp P o a w (fun a' w' => Q .normal a' w') Q else Q .normal (a.put o.dst undef) w)
    (hpos : 0 < ops.size) :
    (Code.region id ops true).wp P Q A w := by
  refine wp_region_any hm (wpAny_inv (J := fun listed a w => listed.size = ops.size ∧ ((listed.getD (ops.size - 1) false = false ∧ Off ops.pop A a ∧ G w ∧ (∀ (i : Nat) (o : Oper), ops[i]? = some o → listed.getD i false = true → ∀ e ∈ o.after, Region.binds .any e = true → listed.getD e.on false = true) ∧
      ∀ (i : Nat) (o : Oper) (d : Tmp), ops[i]? = some o → o.dst = some d → listed.getD i false = true → ∃ v, a.tmps[d]? = some v ∧ F w i v) ∨ ((∀ i, i < ops.size → listed.getD i false = true) ∧ Q .normal a w))) ?_ ?_ _ _ _ _ ?_ ?_)
  · rintro listed a w i ⟨hsz, hJ⟩ hi
    obtain ⟨h1, o, ho, hall⟩ := mem_ready.1 hi
    have HBK := hback
    have hin := getD_lt h1
    have hlf : listed.getD i false = false := by
      have : i < listed.size := hin
      simp [this] at h1 ⊢; exact h1
    rcases hJ with ⟨hl0, hoff, hg, hcl, hf⟩ | ⟨hal, -⟩
    case inr => rw [hal i (by omega)] at hlf; cases hlf
    obtain ⟨kaft, krest⟩ := okOpsL.at hok ho
    by_cases hlt : i + 1 < ops.size
    · obtain ⟨⟨d, k2, k3⟩, k4, -⟩ := krest hlt
      have hst := StepsL.at ops.toList.dropLast 0 i o hsteps (by rw [List.getElem?_dropLast, if_pos (by simp; omega)]; simpa using ho)
      rw [Nat.zero_add] at hst
      unfold wpOp
      rw [ho]
      simp only
      have key := hst a w hoff hg (fun j o' d' hj ho' hd' => by
        obtain ⟨e, he, hb⟩ := Array.any_eq_true'.1 hj
        simp only [Bool.and_eq_true, beq_iff_eq] at hb
        exact hf j o' d' ho' hd' (by rw [← hb.2]; exact hall e he hb.1)) (fun a' w' => (listed.setIfInBounds i true).size = ops.size ∧ (((listed.setIfInBounds i true).getD (ops.size - 1) false = false ∧ Off ops.pop A a' ∧ G w' ∧ (∀ (i' : Nat) (o : Oper), ops[i']? = some o → (listed.setIfInBounds i true).getD i' false = true → ∀ e ∈ o.after, Region.binds .any e = true → (listed.setIfInBounds i true).getD e.on false = true) ∧
          ∀ (j : Nat) (o : Oper) (d : Tmp), ops[j]? = some o → o.dst = some d → (listed.setIfInBounds i true).getD j false = true → ∃ v, a'.tmps[d]? = some v ∧ F w' j v) ∨ ((∀ i', i' < ops.size → (listed.setIfInBounds i true).getD i' false = true) ∧ Q .normal a' w'))) (fun v w' hg' hf' hstay => by
        rw [k2]
        refine ⟨by rw [Array.size_setIfInBounds]; exact hsz, .inl ⟨by rw [getD_set_ne false (by omega)]; exact hl0, hoff.put (i := i) (o := o) (by rw [Array.getElem?_pop, if_pos (by omega)]; exact ho) k2 v, hg', fun i' o' ho' hl' e he hb => ?_, fun j o' d' ho' hd' hl => ?_⟩⟩
        · have up : ∀ q, listed.getD q false = true → (listed.setIfInBounds i true).getD q false = true := fun q hq => by
            by_cases e : i = q
            · subst e; simp [hin]
            · rw [getD_set_ne false e]; exact hq
          by_cases e' : i' = i
          · subst e'
            obtain rfl : o' = o := Option.some.inj (ho'.symm.trans ho)
            exact up _ (hall e he hb)
          · rw [getD_set_ne false (fun h => e' h.symm)] at hl'
            exact up _ (hcl i' o' ho' hl' e he hb)
        · by_cases e : j = i
          · subst e
            obtain rfl : o' = o := Option.some.inj (ho'.symm.trans ho)
            obtain rfl : d' = d := Option.some.inj (hd'.symm.trans k2)
            refine ⟨v, ?_, hf'⟩
            show (a.tmps.setIfInBounds d' v)[d']? = _
            rw [Array.getElem?_setIfInBounds, if_pos rfl, if_pos (by rw [hoff.size, hn]; exact k3)]
          · rw [getD_set_ne false (fun h => e h.symm)] at hl
            obtain ⟨u, hu, hF⟩ := hf j o' d' ho' hd' hl
            refine ⟨u, ?_, hstay j u hF⟩
            have hne : d ≠ d' := fun h => k4 j o' ho' e (by rw [hd', k2, h])
            show (a.tmps.setIfInBounds d v)[d']? = _
            rw [Array.getElem?_setIfInBounds, if_neg hne]; exact hu)
      split
      · rename_i hw; rw [if_pos hw] at key; exact .inl key
      · rename_i hw; rw [if_neg hw] at key; exact key
    · obtain rfl : i = ops.size - 1 := by have := (Array.getElem?_eq_some_iff.1 ho).1; omega
      have hoe := Option.some.inj (HBK.symm.trans (by rw [Array.back?_eq_getElem?]; exact ho))
      subst hoe
      have all : ∀ k j, j + k + 1 = ops.size → 0 < k → listed.getD j false = true := by
        intro k
        induction k using Nat.strongRecOn with
        | _ k ih =>
          intro j hj hk
          have hoj : ops[j]? = some (ops[j]'(by omega)) := Array.getElem?_eq_getElem _
          obtain ⟨-, hr⟩ := okOpsL.at hok hoj
          obtain ⟨-, -, j', o', hj', e, he, hb, hon⟩ := hr (by omega)
          have hlt' : j < j' := by rw [← hon]; exact (okOpsL.at hok hj').1 e he
          have hj'lt := (Array.getElem?_eq_some_iff.1 hj').1
          by_cases hL : j' = ops.size - 1
          · subst hL
            obtain rfl : o' = o := Option.some.inj (hj'.symm.trans ho)
            rw [← hon]; exact hall e he hb
          · have := ih (ops.size - 1 - j') (by omega) j' (by omega) (by omega)
            rw [← hon]; exact hcl j' o' hj' this e he hb
      have key := hlast a w hoff hg (fun i' o' d' hi' ho' hd' => hf i' o' d' ho' hd' (all (ops.size - 1 - i') i' (by omega) (by omega)))
      have fin : ∀ a' w', Q .normal a' w' → (listed.setIfInBounds (ops.size - 1) true).size = ops.size ∧ (((listed.setIfInBounds (ops.size - 1) true).getD (ops.size - 1) false = false ∧ Off ops.pop A a' ∧ G w' ∧ (∀ (i' : Nat) (o : Oper), ops[i']? = some o → (listed.setIfInBounds (ops.size - 1) true).getD i' false = true → ∀ e ∈ o.after, Region.binds .any e = true → (listed.setIfInBounds (ops.size - 1) true).getD e.on false = true) ∧
          ∀ (j : Nat) (o : Oper) (d : Tmp), ops[j]? = some o → o.dst = some d → (listed.setIfInBounds (ops.size - 1) true).getD j false = true → ∃ v, a'.tmps[d]? = some v ∧ F w' j v) ∨ ((∀ i', i' < ops.size → (listed.setIfInBounds (ops.size - 1) true).getD i' false = true) ∧ Q .normal a' w')) := by
        intro a' w' hq
        refine ⟨by rw [Array.size_setIfInBounds]; exact hsz, .inr ⟨fun i' hi' => ?_, hq⟩⟩
        by_cases e : ops.size - 1 = i'
        · subst e; simp [hin]
        · rw [getD_set_ne false e]; exact all (ops.size - 1 - i') i' (by omega) (by omega)
      have hop : wpOp P ops Q (ops.size - 1) (fun a' w' => Q .normal a' w') a w := by
        unfold wpOp
        rw [ho]
        simp only
        split
        · rename_i hw; rw [if_pos hw] at key; exact .inl key
        · rename_i hw; rw [if_neg hw] at key; exact key
      exact wpOp_mono (fun a' w' h => fin a' w' h) hop
  · rintro listed a w ⟨hsz, hJ⟩ hr
    rcases hJ with ⟨hl0, -⟩ | ⟨-, hq⟩
    case inr => exact hq
    exfalso
    have all : ∀ i, i < ops.size → listed.getD i false = true := by
      intro i
      induction i using Nat.strongRecOn with
      | _ i ih =>
        intro hi
        cases hl : listed.getD i true with
        | true => simpa [hsz, hi] using hl
        | false =>
          have ho : ops[i]? = some ops[i] := Array.getElem?_eq_getElem hi
          have : i ∈ Region.ready .any ops listed := mem_ready.2 ⟨hl, ops[i], ho, fun e he _ => ih e.on ((okOpsL.at hok ho).1 e he) (Nat.lt_trans ((okOpsL.at hok ho).1 e he) hi)⟩
          rw [hr] at this; cases this
    rw [all (ops.size - 1) (by omega)] at hl0
    cases hl0
  · exact Nat.le_trans List.countP_le_length (by simp)
  · exact ⟨by simp, .inl ⟨none_listed _ _, Off.refl _ _, hG, fun i o _ hl => (by rw [none_listed] at hl; cases hl), fun i o d _ _ hl => by rw [none_listed] at hl; cases hl⟩⟩
end
end Go.Proofs.YtgjemmdhamkngaaGreatDoor
