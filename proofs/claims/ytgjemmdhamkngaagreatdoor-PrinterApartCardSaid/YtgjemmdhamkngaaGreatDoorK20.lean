/-
  WText
-/
import Derived.Test.YtgjemmdhamkngaaGreatDoorK19
namespace Go.Proofs.YtgjemmdhamkngaaGreatDoor
open Go.RowKit
def told (b : Bool) (l : List UInt8) : List UInt8 := match b with
 | true => l
 | false => []
set_option maxRecDepth 100000 in
set_option maxHeartbeats 4000000 in
theorem wprogram_any (x : Pr) (hr : prB x = true) (S : Nat → Prop) (B b : Nat) (acc : List UInt8) (w : World) (c0 c1 c2 : Value) (hS : ∀ k, S k → k < B) (hB : B ≤ w.heap.size) (hg : 0 < B) (htab : TabOk w) (hx : RepPr S w x c0 c1 c2)
  (hbu : Lib.IsBuilderF 108 5 B b (Lib.byteCells acc) w) (hlen : acc.length + (showPr x).length ≤ 140737488355328) :
  Calls Tryz.prog 39 #[.pointer (some ⟨b, 0, none⟩), .agg #[c0, c1, c2]] w fun e w' => e = .returned (.tuple #[]) ∧ pw.Wrote B b (acc ++ showPr x) w w' := by
 have HD := Lib.hid hx.1; have HFA := Lib.hid hx.2.1; have HR := Lib.hid hx.2.2
 have HBU := Lib.hid hbu; have HTB := Lib.hid htab
 have HRR : Hid (∀ y ∈ x.rules, ruB y = true) := by
  show ∀ y ∈ x.rules, ruB y = true
  simp only [prB, Bool.and_eq_true] at hr
  exact (listB_bounds hr.2.2).2.2
 have HLN : Hid (acc.length + (linesOf (x.decls.map showDe)).length + (linesOf (x.facts.map showFa)).length + (linesOf (x.rules.map showRu)).length ≤ 140737488355328) := by
  show _ ≤ _
  simp only [showPr, List.length_append] at hlen
  omega
 obtain ⟨fa, fc, rfl⟩ := SlG.form hx.1
 obtain ⟨ga, gc, rfl⟩ := SlG.form hx.2.1
 obtain ⟨ha, hc, rfl⟩ := SlG.form hx.2.2
 clear hx htab hbu hlen hr
 go_enter Tryz.func39, Tryz.ntmps39
 go_wp2_with fail
 have q2 := alloc_new' w (.cells #[.slice fa x.decls.length fc, .slice ga x.facts.length gc, .slice ha x.rules.length hc] 26)
 have b2 := below_alloc w (.cells #[.slice fa x.decls.length fc, .slice ga x.facts.length gc, .slice ha x.rules.length hc] 26)
 generalize w.alloc (.cells #[.slice fa x.decls.length fc, .slice ga x.facts.length gc, .slice ha x.rules.length hc] 26) = w2 at *
 have Q2 := Lib.hid q2
 have W2 := Lib.hid (pw.Wrote.start HBU.out hB b2)
 have N2 : Hid (w.heap.size ≠ b) := by show _ ≠ _; have := builder_lt HBU.out; omega
 have HBX := Lib.hid (Nat.le_trans hB b2.size)
 have HTX := Lib.hid (TabOk.below HTB.out hg (b2.mono hB))
 have HB2 := Lib.hid (b2.mono hB)
 clear q2 b2
 generalize hpb : w.heap.size = pb at Q2 N2 ⊢
 clear hpb
 have HW : Hid (pw.Wrote B b acc w2 w2) := Lib.hid ⟨W2.out.1, Below.refl _ _, Lib.OthersKept.refl _ _ _⟩
 refine (lines_De x.decls S B b _ _ _ hS (Nat.le_trans HBX.out HW.out.2.1.size) hg (TabOk.below HTX.out hg HW.out.2.1) (RepDes.on (fun _ h => h) (fun k hk => (HB2.out.trans HW.out.2.1).block k (hS k hk)) HD.out) HW.out.1 (by have := HLN.out; omega)).mono ?_
 rintro e w3 ⟨rfl, W⟩
 replace HW := Lib.hid (HW.out.trans W); clear W
 have d0 := kept_cell (i := 0) HW.out.2.2 Q2.out (by decide) N2.out _ rfl
 have d1 := kept_cell (i := 1) HW.out.2.2 Q2.out (by decide) N2.out _ rfl
 have d2 := kept_cell (i := 2) HW.out.2.2 Q2.out (by decide) N2.out _ rfl
 go_wp2_with fail
 refine (lines_Fa x.facts S B b _ _ _ hS (Nat.le_trans HBX.out HW.out.2.1.size) hg (TabOk.below HTX.out hg HW.out.2.1) (RepFas.on (fun _ h => h) (fun k hk => (HB2.out.trans HW.out.2.1).block k (hS k hk)) HFA.out) HW.out.1 (by have := HLN.out; simp only [List.length_append]; omega)).mono ?_
 rintro e w4 ⟨rfl, W⟩
 replace HW := Lib.hid (HW.out.trans W); clear W
 clear d0 d1 d2
 have d0 := kept_cell (i := 0) HW.out.2.2 Q2.out (by decide) N2.out _ rfl
 have d1 := kept_cell (i := 1) HW.out.2.2 Q2.out (by decide) N2.out _ rfl
 have d2 := kept_cell (i := 2) HW.out.2.2 Q2.out (by decide) N2.out _ rfl
 go_wp2_with fail
 refine (lines_Ru x.rules HRR.out S B b _ _ _ hS (Nat.le_trans HBX.out HW.out.2.1.size) hg (TabOk.below HTX.out hg HW.out.2.1) (RepRus.on (fun _ h => h) (fun k hk => (HB2.out.trans HW.out.2.1).block k (hS k hk)) HR.out) HW.out.1 (by have := HLN.out; simp only [List.length_append]; omega)).mono ?_
 rintro e w5 ⟨rfl, W⟩
 replace HW := Lib.hid (HW.out.trans W); clear W
 clear d0 d1 d2
 go_wp2_with fail
 go_end0
 refine ⟨rfl, ?_⟩
 have h := W2.out.trans HW.out
 simpa [showPr, List.append_assoc] using h
set_option maxRecDepth 100000 in
set_option maxHeartbeats 4000000 in
theorem text_Tm (x : Tm) (S : Nat → Prop) (w : World) (c0 c1 c2 c3 c4 c5 c6 : Value) (hS : ∀ k, S k → k < w.heap.size) (hg : 0 < w.heap.size) (htab : TabOk w) (hx : RepM S w x c0 c1 c2 c3 c4 c5 c6) (hlen : rightM 8 x = true → (showM x).length ≤ 140737488355328) :
  Calls Tryz.prog 52 #[.agg #[c0, c1, c2, c3, c4, c5, c6], .func (.func 53) #[] #[], .func (.func 54) #[] #[]] w fun e w' => e = .returned (.string ⟨(told (rightM 8 x) (showM x)).toArray⟩) ∧ Below w.heap.size w w' := by
 have HX := Lib.hid hx; have HTB := Lib.hid htab; have HLEN := Lib.hid hlen
 obtain ⟨fa, fc, ga, gc, rfl, rfl, rfl, rfl, rfl, rfl, rfl⟩ := hx.form
 clear hx htab hlen
 have hen : ∀ args w, Sem.run Tryz.prog (callFunc 53 args) w = .ok (.enter 53 args) w := fun args w => by kernel_rfl
 have hen2 : ∀ args w, Sem.run Tryz.prog (callFunc 54 args) w = .ok (.enter 54 args) w := fun args w => by kernel_rfl
 go_enter Tryz.func52, Tryz.ntmps52
 go_wp2_with fail
 have x1 := boxM_new w (.int .i64 x.kind) (.string x.name) (.int .i64 x.val.kind) (.int .i64 x.val.num) (.string x.val.text) (.slice fa x.val.list.length fc) (.slice ga x.args.length gc)
 have b1 := below_alloc w (.cells #[.int .i64 x.kind, .string x.name, .int .i64 x.val.kind, .int .i64 x.val.num, .string x.val.text, .slice fa x.val.list.length fc, .slice ga x.args.length gc] 46)
 generalize w.alloc (.cells #[.int .i64 x.kind, .string x.name, .int .i64 x.val.kind, .int .i64 x.val.num, .string x.val.text, .slice fa x.val.list.length fc, .slice ga x.args.length gc] 46) = w1 at *
 have X1 := Lib.hid x1; have B1 := Lib.hid b1
 clear x1 b1
 refine (rightTerm_any x S _ _ _ _ _ _ _ _ (fun k hk => Nat.lt_of_lt_of_le (hS k hk) B1.out.size) (RepM.on (fun _ h => h) (fun k hk => B1.out.block k (hS k hk)) x HX.out)).mono ?_
 rintro e w2 ⟨rfl, hb⟩
 have X2 := Lib.hid (X1.out.on hb); have B2 := Lib.hid (Below.step B1.out hb)
 clear hb
 obtain ⟨p0, p1, p2, p3, p4, p5, p6⟩ := X2.out.cells
 cases hr : rightM 8 x with
 | false =>
  have HRF := Lib.hid hr; clear hr
  go_wp2_with fail
  go_ret
  exact ⟨by rw [HRF.out]; rfl, B2.out⟩
 | true =>
  have HRT := Lib.hid hr; clear hr
  have HLN : Hid (([] : List UInt8).length + (showM x).length ≤ 140737488355328) := by show _ ≤ _; have h := HLEN.out HRT.out; simp only [List.length_nil]; omega
  clear p0 p1 p2 p3 p4 p5 p6
  have hba := below_alloc w2 (.cells #[.pointer none, .slice none 0 0] 108)
  obtain ⟨p0, p1, p2, p3, p4, p5, p6⟩ := (X2.out.on hba).cells
  have B3 := Lib.hid (Below.step B2.out hba)
  have HS3 : Hid (w2.heap.size ≤ (w2.alloc (.cells #[.pointer none, .slice none 0 0] 108)).heap.size) := hba.size
  have HFR := Lib.hid (Lib.IsBuilderF.of (Lib.fresh_isBuilder 108 5 w2))
  clear hba
  go_wp2_with fail
  refine (wterm_any x S w2.heap.size w2.heap.size [] _ _ _ _ _ _ _ _ (fun k hk => Nat.lt_of_lt_of_le (hS k hk) B2.out.size) HS3.out (Nat.lt_of_lt_of_le hg B2.out.size) (TabOk.below HTB.out hg B3.out) (RepM.on (fun _ h => h) (fun k hk => B3.out.block k (hS k hk)) x HX.out) HFR.out HLN.out).mono ?_
  rintro e w4 ⟨rfl, W⟩
  have HW := Lib.hid W
  clear W
  go_wp2_with fail
  refine (pw.string_any w2.heap.size w2.heap.size ([] ++ showM x) _ (Nat.le_trans HS3.out HW.out.2.1.size) HW.out.1).mono ?_
  rintro e w5 ⟨rfl, hb⟩
  have HB5 := Lib.hid (B3.out.trans ((HW.out.2.1.trans hb).mono B2.out.size))
  clear hb
  go_wp2_with fail
  go_ret
  exact ⟨by rw [HRT.out]; rfl, HB5.out⟩
set_option maxRecDepth 100000 in
set_option maxHeartbeats 4000000 in
theorem prTm_any (x : Tm) (S : Nat → Prop) (w : World) (c0 c1 c2 c3 c4 c5 c6 : Value) (hS : ∀ k, S k → k < w.heap.size) (hg : 0 < w.heap.size) (htab : TabOk w) (hx : RepM S w x c0 c1 c2 c3 c4 c5 c6) (hlen : rightM 8 x = true → (showM x).length ≤ 140737488355328) :
  Calls Tryz.prog 20 #[.agg #[c0, c1, c2, c3, c4, c5, c6]] w fun e w' => e = .returned (.string ⟨(told (rightM 8 x) (showM x)).toArray⟩) ∧ Below w.heap.size w w' := by
 have HX := Lib.hid hx; have HTB := Lib.hid htab; have HLEN := Lib.hid hlen
 obtain ⟨fa, fc, ga, gc, rfl, rfl, rfl, rfl, rfl, rfl, rfl⟩ := hx.form
 clear hx htab hlen
 go_enter Tryz.func20, Tryz.ntmps20
 go_wp2_with fail
 have b1 := below_alloc w (.cells #[.int .i64 x.kind, .string x.name, .int .i64 x.val.kind, .int .i64 x.val.num, .string x.val.text, .slice fa x.val.list.length fc, .slice ga x.args.length gc] 46)
 refine (text_Tm x S _ _ _ _ _ _ _ _ (fun k hk => Nat.lt_of_lt_of_le (hS k hk) b1.size) (Nat.lt_of_lt_of_le hg b1.size) (TabOk.below HTB.out hg b1) (RepM.on (fun _ h => h) (fun k hk => b1.block k (hS k hk)) x HX.out) HLEN.out).mono ?_
 rintro e w2 ⟨rfl, hb⟩
 have B2 := Lib.hid (Below.step b1 hb)
 clear b1 hb
 go_wp2_with fail
 go_ret
 exact ⟨rfl, B2.out⟩
set_option maxRecDepth 100000 in
set_option maxHeartbeats 4000000 in
theorem text_Li (x : Li) (S : Nat → Prop) (w : World) (c0 c1 c2 : Value) (hS : ∀ k, S k → k < w.heap.size) (hg : 0 < w.heap.size) (htab : TabOk w) (hx : RepLi S w x c0 c1 c2) (hlen : liB x = true → (showLi x).length ≤ 140737488355328) :
  Calls Tryz.prog 48 #[.agg #[c0, c1, c2], .func (.func 49) #[] #[], .func (.func 50) #[] #[]] w fun e w' => e = .returned (.string ⟨(told (liB x) (showLi x)).toArray⟩) ∧ Below w.heap.size w w' := by
 have HX := Lib.hid hx; have HTB := Lib.hid htab; have HLEN := Lib.hid hlen
 obtain ⟨ga, gc, rfl, rfl, rfl⟩ := hx.form
 clear hx htab hlen
 have hen : ∀ args w, Sem.run Tryz.prog (callFunc 49 args) w = .ok (.enter 49 args) w := fun args w => by kernel_rfl
 have hen2 : ∀ args w, Sem.run Tryz.prog (callFunc 50 args) w = .ok (.enter 50 args) w := fun args w => by kernel_rfl
 go_enter Tryz.func48, Tryz.ntmps48
 go_wp2_with fail
 have x1 := boxLi_new w (.int .i64 x.kind) (.string x.name) (.slice ga x.args.length gc)
 have b1 := below_alloc w (.cells #[.int .i64 x.kind, .string x.name, .slice ga x.args.length gc] 41)
 generalize w.alloc (.cells #[.int .i64 x.kind, .string x.name, .slice ga x.args.length gc] 41) = w1 at *
 have X1 := Lib.hid x1; have B1 := Lib.hid b1
 clear x1 b1
 refine (rightLiteral_any x S _ _ _ _ (fun k hk => Nat.lt_of_lt_of_le (hS k hk) B1.out.size) (RepLi.on (fun _ h => h) (fun k hk => B1.out.block k (hS k hk)) HX.out)).mono ?_
 rintro e w2 ⟨rfl, hb⟩
 have X2 := Lib.hid (X1.out.on hb); have B2 := Lib.hid (Below.step B1.out hb)
 clear hb
 obtain ⟨p0, p1, p2⟩ := X2.out.cells
 cases hr : liB x with
 | false =>
  have HRF := Lib.hid hr; clear hr
  go_wp2_with fail
  go_ret
  exact ⟨by rw [HRF.out]; rfl, B2.out⟩
 | true =>
  have HRT := Lib.hid hr; clear hr
  have HLN : Hid (([] : List UInt8).length + (showLi x).length ≤ 140737488355328) := by show _ ≤ _; have h := HLEN.out HRT.out; simp only [List.length_nil]; omega
  clear p0 p1 p2
  have hba := below_alloc w2 (.cells #[.pointer none, .slice none 0 0] 108)
  obtain ⟨p0, p1, p2⟩ := (X2.out.on hba).cells
  have B3 := Lib.hid (Below.step B2.out hba)
  have HS3 : Hid (w2.heap.size ≤ (w2.alloc (.cells #[.pointer none, .slice none 0 0] 108)).heap.size) := hba.size
  have HFR := Lib.hid (Lib.IsBuilderF.of (Lib.fresh_isBuilder 108 5 w2))
  clear hba
  go_wp2_with fail
  refine (wliteral_any x HRT.out S w2.heap.size w2.heap.size [] _ _ _ _ (fun k hk => Nat.lt_of_lt_of_le (hS k hk) B2.out.size) HS3.out (Nat.lt_of_lt_of_le hg B2.out.size) (TabOk.below HTB.out hg B3.out) (RepLi.on (fun _ h => h) (fun k hk => B3.out.block k (hS k hk)) HX.out) HFR.out HLN.out).mono ?_
  rintro e w4 ⟨rfl, W⟩
  have HW := Lib.hid W
  clear W
  go_wp2_with fail
  refine (pw.string_any w2.heap.size w2.heap.size ([] ++ showLi x) _ (Nat.le_trans HS3.out HW.out.2.1.size) HW.out.1).mono ?_
  rintro e w5 ⟨rfl, hb⟩
  have HB5 := Lib.hid (B3.out.trans ((HW.out.2.1.trans hb).mono B2.out.size))
  clear hb
  go_wp2_with fail
  go_ret
  exact ⟨by rw [HRT.out]; rfl, HB5.out⟩
set_option maxRecDepth 100000 in
set_option maxHeartbeats 4000000 in
theorem prLi_any (x : Li) (S : Nat → Prop) (w : World) (c0 c1 c2 : Value) (hS : ∀ k, S k → k < w.heap.size) (hg : 0 < w.heap.size) (htab : TabOk w) (hx : RepLi S w x c0 c1 c2) (hlen : liB x = true → (showLi x).length ≤ 140737488355328) :
  Calls Tryz.prog 18 #[.agg #[c0, c1, c2]] w fun e w' => e = .returned (.string ⟨(told (liB x) (showLi x)).toArray⟩) ∧ Below w.heap.size w w' := by
 have HX := Lib.hid hx; have HTB := Lib.hid htab; have HLEN := Lib.hid hlen
 obtain ⟨ga, gc, rfl, rfl, rfl⟩ := hx.form
 clear hx htab hlen
 go_enter Tryz.func18, Tryz.ntmps18
 go_wp2_with fail
 have b1 := below_alloc w (.cells #[.int .i64 x.kind, .string x.name, .slice ga x.args.length gc] 41)
 refine (text_Li x S _ _ _ _ (fun k hk => Nat.lt_of_lt_of_le (hS k hk) b1.size) (Nat.lt_of_lt_of_le hg b1.size) (TabOk.below HTB.out hg b1) (RepLi.on (fun _ h => h) (fun k hk => b1.block k (hS k hk)) HX.out) HLEN.out).mono ?_
 rintro e w2 ⟨rfl, hb⟩
 have B2 := Lib.hid (Below.step b1 hb)
 clear b1 hb
 go_wp2_with fail
 go_ret
 exact ⟨rfl, B2.out⟩
set_option maxRecDepth 100000 in
set_option maxHeartbeats 4000000 in
theorem text_Ru (x : Ru) (S : Nat → Prop) (w : World) (c0 c1 c2 c3 c4 c5 : Value) (hS : ∀ k, S k → k < w.heap.size) (hg : 0 < w.heap.size) (htab : TabOk w) (hx : RepRu S w x c0 c1 c2 c3 c4 c5) (hlen : ruB x = true → (showRu x).length ≤ 140737488355328) :
  Calls Tryz.prog 45 #[.agg #[c0, c1, c2, c3, c4, c5], .func (.func 34) #[] #[], .func (.func 46) #[] #[]] w fun e w' => e = .returned (.string ⟨(told (ruB x) (showRu x)).toArray⟩) ∧ Below w.heap.size w w' := by
 have HX := Lib.hid hx; have HTB := Lib.hid htab; have HLEN := Lib.hid hlen
 obtain ⟨fa, fc, ga, gc, rfl, rfl, rfl, rfl, rfl, rfl⟩ := hx.form
 clear hx htab hlen
 have hen : ∀ args w, Sem.run Tryz.prog (callFunc 34 args) w = .ok (.enter 34 args) w := fun args w => by kernel_rfl
 have hen2 : ∀ args w, Sem.run Tryz.prog (callFunc 46 args) w = .ok (.enter 46 args) w := fun args w => by kernel_rfl
 go_enter Tryz.func45, Tryz.ntmps45
 go_wp2_with fail
 have x1 := boxRu_new w (.string x.label) (.string x.head) (.slice fa x.args.length fc) (.string x.agg) (.int .i64 x.at') (.slice ga x.body.length gc)
 have b1 := below_alloc w (.cells #[.string x.label, .string x.head, .slice fa x.args.length fc, .string x.agg, .int .i64 x.at', .slice ga x.body.length gc] 37)
 generalize w.alloc (.cells #[.string x.label, .string x.head, .slice fa x.args.length fc, .string x.agg, .int .i64 x.at', .slice ga x.body.length gc] 37) = w1 at *
 have X1 := Lib.hid x1; have B1 := Lib.hid b1
 clear x1 b1
 refine (rightRule_any x S _ _ _ _ _ _ _ (fun k hk => Nat.lt_of_lt_of_le (hS k hk) B1.out.size) (RepRu.on (fun _ h => h) (fun k hk => B1.out.block k (hS k hk)) HX.out)).mono ?_
 rintro e w2 ⟨rfl, hb⟩
 have X2 := Lib.hid (X1.out.on hb); have B2 := Lib.hid (Below.step B1.out hb)
 clear hb
 obtain ⟨p0, p1, p2, p3, p4, p5⟩ := X2.out.cells
 cases hr : ruB x with
 | false =>
  have HRF := Lib.hid hr; clear hr
  go_wp2_with fail
  go_ret
  exact ⟨by rw [HRF.out]; rfl, B2.out⟩
 | true =>
  have HRT := Lib.hid hr; clear hr
  have HLN : Hid (([] : List UInt8).length + (showRu x).length ≤ 140737488355328) := by show _ ≤ _; have h := HLEN.out HRT.out; simp only [List.length_nil]; omega
  clear p0 p1 p2 p3 p4 p5
  have hba := below_alloc w2 (.cells #[.pointer none, .slice none 0 0] 108)
  obtain ⟨p0, p1, p2, p3, p4, p5⟩ := (X2.out.on hba).cells
  have B3 := Lib.hid (Below.step B2.out hba)
  have HS3 : Hid (w2.heap.size ≤ (w2.alloc (.cells #[.pointer none, .slice none 0 0] 108)).heap.size) := hba.size
  have HFR := Lib.hid (Lib.IsBuilderF.of (Lib.fresh_isBuilder 108 5 w2))
  clear hba
  go_wp2_with fail
  refine (wrule_any x S w2.heap.size w2.heap.size [] _ _ _ _ _ _ _ (fun k hk => Nat.lt_of_lt_of_le (hS k hk) B2.out.size) HS3.out (Nat.lt_of_lt_of_le hg B2.out.size) (TabOk.below HTB.out hg B3.out) (RepRu.on (fun _ h => h) (fun k hk => B3.out.block k (hS k hk)) HX.out) HFR.out HRT.out HLN.out).mono ?_
  rintro e w4 ⟨rfl, W⟩
  have HW := Lib.hid W
  clear W
  go_wp2_with fail
  refine (pw.string_any w2.heap.size w2.heap.size ([] ++ showRu x) _ (Nat.le_trans HS3.out HW.out.2.1.size) HW.out.1).mono ?_
  rintro e w5 ⟨rfl, hb⟩
  have HB5 := Lib.hid (B3.out.trans ((HW.out.2.1.trans hb).mono B2.out.size))
  clear hb
  go_wp2_with fail
  go_ret
  exact ⟨by rw [HRT.out]; rfl, HB5.out⟩
set_option maxRecDepth 100000 in
set_option maxHeartbeats 4000000 in
theorem prRu_any (x : Ru) (S : Nat → Prop) (w : World) (c0 c1 c2 c3 c4 c5 : Value) (hS : ∀ k, S k → k < w.heap.size) (hg : 0 < w.heap.size) (htab : TabOk w) (hx : RepRu S w x c0 c1 c2 c3 c4 c5) (hlen : ruB x = true → (showRu x).length ≤ 140737488355328) :
  Calls Tryz.prog 16 #[.agg #[c0, c1, c2, c3, c4, c5]] w fun e w' => e = .returned (.string ⟨(told (ruB x) (showRu x)).toArray⟩) ∧ Below w.heap.size w w' := by
 have HX := Lib.hid hx; have HTB := Lib.hid htab; have HLEN := Lib.hid hlen
 obtain ⟨fa, fc, ga, gc, rfl, rfl, rfl, rfl, rfl, rfl⟩ := hx.form
 clear hx htab hlen
 go_enter Tryz.func16, Tryz.ntmps16
 go_wp2_with fail
 have b1 := below_alloc w (.cells #[.string x.label, .string x.head, .slice fa x.args.length fc, .string x.agg, .int .i64 x.at', .slice ga x.body.length gc] 37)
 refine (text_Ru x S _ _ _ _ _ _ _ (fun k hk => Nat.lt_of_lt_of_le (hS k hk) b1.size) (Nat.lt_of_lt_of_le hg b1.size) (TabOk.below HTB.out hg b1) (RepRu.on (fun _ h => h) (fun k hk => b1.block k (hS k hk)) HX.out) HLEN.out).mono ?_
 rintro e w2 ⟨rfl, hb⟩
 have B2 := Lib.hid (Below.step b1 hb)
 clear b1 hb
 go_wp2_with fail
 go_ret
 exact ⟨rfl, B2.out⟩
set_option maxRecDepth 100000 in
set_option maxHeartbeats 4000000 in
theorem text_Fa (x : Fa) (S : Nat → Prop) (w : World) (c0 c1 : Value) (hS : ∀ k, S k → k < w.heap.size) (hg : 0 < w.heap.size) (htab : TabOk w) (hx : RepFa S w x c0 c1) (hlen : faB x = true → (showFa x).length ≤ 140737488355328) :
  Calls Tryz.prog 42 #[.agg #[c0, c1], .func (.func 32) #[] #[], .func (.func 43) #[] #[]] w fun e w' => e = .returned (.string ⟨(told (faB x) (showFa x)).toArray⟩) ∧ Below w.heap.size w w' := by
 have HX := Lib.hid hx; have HTB := Lib.hid htab; have HLEN := Lib.hid hlen
 obtain ⟨ga, gc, rfl, rfl⟩ := hx.form
 clear hx htab hlen
 have hen : ∀ args w, Sem.run Tryz.prog (callFunc 32 args) w = .ok (.enter 32 args) w := fun args w => by kernel_rfl
 have hen2 : ∀ args w, Sem.run Tryz.prog (callFunc 43 args) w = .ok (.enter 43 args) w := fun args w => by kernel_rfl
 go_enter Tryz.func42, Tryz.ntmps42
 go_wp2_with fail
 have x1 := boxFa_new w (.string x.name) (.slice ga x.args.length gc)
 have b1 := below_alloc w (.cells #[.string x.name, .slice ga x.args.length gc] 33)
 generalize w.alloc (.cells #[.string x.name, .slice ga x.args.length gc] 33) = w1 at *
 have X1 := Lib.hid x1; have B1 := Lib.hid b1
 clear x1 b1
 refine (rightTuple_any x S _ _ _ (fun k hk => Nat.lt_of_lt_of_le (hS k hk) B1.out.size) (RepFa.on (fun _ h => h) (fun k hk => B1.out.block k (hS k hk)) HX.out)).mono ?_
 rintro e w2 ⟨rfl, hb⟩
 have X2 := Lib.hid (X1.out.on hb); have B2 := Lib.hid (Below.step B1.out hb)
 clear hb
 obtain ⟨p0, p1⟩ := X2.out.cells
 cases hr : faB x with
 | false =>
  have HRF := Lib.hid hr; clear hr
  go_wp2_with fail
  go_ret
  exact ⟨by rw [HRF.out]; rfl, B2.out⟩
 | true =>
  have HRT := Lib.hid hr; clear hr
  have HLN : Hid (([] : List UInt8).length + (showFa x).length ≤ 140737488355328) := by show _ ≤ _; have h := HLEN.out HRT.out; simp only [List.length_nil]; omega
  clear p0 p1
  have hba := below_alloc w2 (.cells #[.pointer none, .slice none 0 0] 108)
  obtain ⟨p0, p1⟩ := (X2.out.on hba).cells
  have B3 := Lib.hid (Below.step B2.out hba)
  have HS3 : Hid (w2.heap.size ≤ (w2.alloc (.cells #[.pointer none, .slice none 0 0] 108)).heap.size) := hba.size
  have HFR := Lib.hid (Lib.IsBuilderF.of (Lib.fresh_isBuilder 108 5 w2))
  clear hba
  go_wp2_with fail
  refine (wtuple_any x S w2.heap.size w2.heap.size [] _ _ _ (fun k hk => Nat.lt_of_lt_of_le (hS k hk) B2.out.size) HS3.out (Nat.lt_of_lt_of_le hg B2.out.size) (TabOk.below HTB.out hg B3.out) (RepFa.on (fun _ h => h) (fun k hk => B3.out.block k (hS k hk)) HX.out) HFR.out HLN.out).mono ?_
  rintro e w4 ⟨rfl, W⟩
  have HW := Lib.hid W
  clear W
  go_wp2_with fail
  refine (pw.string_any w2.heap.size w2.heap.size ([] ++ showFa x) _ (Nat.le_trans HS3.out HW.out.2.1.size) HW.out.1).mono ?_
  rintro e w5 ⟨rfl, hb⟩
  have HB5 := Lib.hid (B3.out.trans ((HW.out.2.1.trans hb).mono B2.out.size))
  clear hb
  go_wp2_with fail
  go_ret
  exact ⟨by rw [HRT.out]; rfl, HB5.out⟩
set_option maxRecDepth 100000 in
set_option maxHeartbeats 4000000 in
theorem prFa_any (x : Fa) (S : Nat → Prop) (w : World) (c0 c1 : Value) (hS : ∀ k, S k → k < w.heap.size) (hg : 0 < w.heap.size) (htab : TabOk w) (hx : RepFa S w x c0 c1) (hlen : faB x = true → (showFa x).length ≤ 140737488355328) :
  Calls Tryz.prog 14 #[.agg #[c0, c1]] w fun e w' => e = .returned (.string ⟨(told (faB x) (showFa x)).toArray⟩) ∧ Below w.heap.size w w' := by
 have HX := Lib.hid hx; have HTB := Lib.hid htab; have HLEN := Lib.hid hlen
 obtain ⟨ga, gc, rfl, rfl⟩ := hx.form
 clear hx htab hlen
 go_enter Tryz.func14, Tryz.ntmps14
 go_wp2_with fail
 have b1 := below_alloc w (.cells #[.string x.name, .slice ga x.args.length gc] 33)
 refine (text_Fa x S _ _ _ (fun k hk => Nat.lt_of_lt_of_le (hS k hk) b1.size) (Nat.lt_of_lt_of_le hg b1.size) (TabOk.below HTB.out hg b1) (RepFa.on (fun _ h => h) (fun k hk => b1.block k (hS k hk)) HX.out) HLEN.out).mono ?_
 rintro e w2 ⟨rfl, hb⟩
 have B2 := Lib.hid (Below.step b1 hb)
 clear b1 hb
 go_wp2_with fail
 go_ret
 exact ⟨rfl, B2.out⟩
set_option maxRecDepth 100000 in
set_option maxHeartbeats 4000000 in
theorem text_Pr (x : Pr) (S : Nat → Prop) (w : World) (c0 c1 c2 : Value) (hS : ∀ k, S k → k < w.heap.size) (hg : 0 < w.heap.size) (htab : TabOk w) (hx : RepPr S w x c0 c1 c2) (hlen : prB x = true → (showPr x).length ≤ 140737488355328) :
  Calls Tryz.prog 38 #[.agg #[c0, c1, c2], .func (.func 10) #[] #[], .func (.func 39) #[] #[]] w fun e w' => e = .returned (.string ⟨(told (prB x) (showPr x)).toArray⟩) ∧ Below w.heap.size w w' := by
 have HX := Lib.hid hx; have HTB := Lib.hid htab; have HLEN := Lib.hid hlen
 obtain ⟨fa, fc, rfl⟩ := SlG.form hx.1
 obtain ⟨ga, gc, rfl⟩ := SlG.form hx.2.1
 obtain ⟨ha, hc, rfl⟩ := SlG.form hx.2.2
 clear hx htab hlen
 have hen : ∀ args w, Sem.run Tryz.prog (callFunc 10 args) w = .ok (.enter 10 args) w := fun args w => by kernel_rfl
 have hen2 : ∀ args w, Sem.run Tryz.prog (callFunc 39 args) w = .ok (.enter 39 args) w := fun args w => by kernel_rfl
 go_enter Tryz.func38, Tryz.ntmps38
 go_wp2_with fail
 have x1 := boxPr_new w (.slice fa x.decls.length fc) (.slice ga x.facts.length gc) (.slice ha x.rules.length hc)
 have b1 := below_alloc w (.cells #[.slice fa x.decls.length fc, .slice ga x.facts.length gc, .slice ha x.rules.length hc] 26)
 generalize w.alloc (.cells #[.slice fa x.decls.length fc, .slice ga x.facts.length gc, .slice ha x.rules.length hc] 26) = w1 at *
 have X1 := Lib.hid x1; have B1 := Lib.hid b1
 clear x1 b1
 refine (prRight_any x S _ _ _ _ (fun k hk => Nat.lt_of_lt_of_le (hS k hk) B1.out.size) (RepPr.on (fun _ h => h) (fun k hk => B1.out.block k (hS k hk)) HX.out)).mono ?_
 rintro e w2 ⟨rfl, hb⟩
 have X2 := Lib.hid (X1.out.on hb); have B2 := Lib.hid (Below.step B1.out hb)
 clear hb
 obtain ⟨p0, p1, p2⟩ := X2.out.cells
 cases hr : prB x with
 | false =>
  have HRF := Lib.hid hr; clear hr
  go_wp2_with fail
  go_ret
  exact ⟨by rw [HRF.out]; rfl, B2.out⟩
 | true =>
  have HRT := Lib.hid hr; clear hr
  have HLN : Hid (([] : List UInt8).length + (showPr x).length ≤ 140737488355328) := by show _ ≤ _; have h := HLEN.out HRT.out; simp only [List.length_nil]; omega
  clear p0 p1 p2
  have hba := below_alloc w2 (.cells #[.pointer none, .slice none 0 0] 108)
  obtain ⟨p0, p1, p2⟩ := (X2.out.on hba).cells
  have B3 := Lib.hid (Below.step B2.out hba)
  have HS3 : Hid (w2.heap.size ≤ (w2.alloc (.cells #[.pointer none, .slice none 0 0] 108)).heap.size) := hba.size
  have HFR := Lib.hid (Lib.IsBuilderF.of (Lib.fresh_isBuilder 108 5 w2))
  clear hba
  go_wp2_with fail
  refine (wprogram_any x HRT.out S w2.heap.size w2.heap.size [] _ _ _ _ (fun k hk => Nat.lt_of_lt_of_le (hS k hk) B2.out.size) HS3.out (Nat.lt_of_lt_of_le hg B2.out.size) (TabOk.below HTB.out hg B3.out) (RepPr.on (fun _ h => h) (fun k hk => B3.out.block k (hS k hk)) HX.out) HFR.out HLN.out).mono ?_
  rintro e w4 ⟨rfl, W⟩
  have HW := Lib.hid W
  clear W
  go_wp2_with fail
  refine (pw.string_any w2.heap.size w2.heap.size ([] ++ showPr x) _ (Nat.le_trans HS3.out HW.out.2.1.size) HW.out.1).mono ?_
  rintro e w5 ⟨rfl, hb⟩
  have HB5 := Lib.hid (B3.out.trans ((HW.out.2.1.trans hb).mono B2.out.size))
  clear hb
  go_wp2_with fail
  go_ret
  exact ⟨by rw [HRT.out]; rfl, HB5.out⟩
set_option maxRecDepth 100000 in
set_option maxHeartbeats 4000000 in
theorem prPr_any (x : Pr) (S : Nat → Prop) (w : World) (c0 c1 c2 : Value) (hS : ∀ k, S k → k < w.heap.size) (hg : 0 < w.heap.size) (htab : TabOk w) (hx : RepPr S w x c0 c1 c2) (hlen : prB x = true → (showPr x).length ≤ 140737488355328) :
  Calls Tryz.prog 12 #[.agg #[c0, c1, c2]] w fun e w' => e = .returned (.string ⟨(told (prB x) (showPr x)).toArray⟩) ∧ Below w.heap.size w w' := by
 have HX := Lib.hid hx; have HTB := Lib.hid htab; have HLEN := Lib.hid hlen
 obtain ⟨fa, fc, rfl⟩ := SlG.form hx.1
 obtain ⟨ga, gc, rfl⟩ := SlG.form hx.2.1
 obtain ⟨ha, hc, rfl⟩ := SlG.form hx.2.2
 clear hx htab hlen
 go_enter Tryz.func12, Tryz.ntmps12
 go_wp2_with fail
 have b1 := below_alloc w (.cells #[.slice fa x.decls.length fc, .slice ga x.facts.length gc, .slice ha x.rules.length hc] 26)
 refine (text_Pr x S _ _ _ _ (fun k hk => Nat.lt_of_lt_of_le (hS k hk) b1.size) (Nat.lt_of_lt_of_le hg b1.size) (TabOk.below HTB.out hg b1) (RepPr.on (fun _ h => h) (fun k hk => b1.block k (hS k hk)) HX.out) HLEN.out).mono ?_
 rintro e w2 ⟨rfl, hb⟩
 have B2 := Lib.hid (Below.step b1 hb)
 clear b1 hb
 go_wp2_with fail
 go_ret
 exact ⟨rfl, B2.out⟩
end Go.Proofs.YtgjemmdhamkngaaGreatDoor
