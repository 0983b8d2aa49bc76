/-
  RfTerm
-/
import Derived.Test.YtjohcnhiblfbnaaGreatK19
import Derived.Deep.RegionHeld3
namespace Go.Proofs.YtjohcnhiblfbnaaGreat
open Go.RowKit
def RefTmAt (d : Nat) : Prop := ∀ (t : Tm) (S : Nat → Prop) (w : World) (c0 c1 c2 c3 c4 c5 c6 : Value), (∀ k, S k → k < w.heap.size) → RepM S w t c0 c1 c2 c3 c4 c5 c6 →
 Calls Tryz.prog 116 #[.agg #[c0, c1, c2, c3, c4, c5, c6], .int .i64 d] w fun e w' => e = .returned (.bool (rightM d t)) ∧ Below w.heap.size w w'
theorem ops_any (s : ByteArray) (b : Nat) (w : World) (h0 : w.cell? ⟨b, 0, none⟩ = some (.string ⟨#[43]⟩)) (h1 : w.cell? ⟨b, 1, none⟩ = some (.string ⟨#[45]⟩)) (h2 : w.cell? ⟨b, 2, none⟩ = some (.string ⟨#[42]⟩)) :
  Calls Tryz.prog 88 #[.slice (some ⟨b, 0, none⟩) 3 3, .string s] w fun e w' => e = .returned (.bool (opB s)) ∧ w = w' := by
 have hst : StrsAt w b [⟨#[43]⟩, ⟨#[45]⟩, ⟨#[42]⟩] := by
  intro k hk
  match k, hk with
  | 0, _ => exact h0
  | 1, _ => exact h1
  | 2, _ => exact h2
 have hb : (([⟨#[43]⟩, ⟨#[45]⟩, ⟨#[42]⟩] : List ByteArray).any fun x => x.toList == s.toList) = opB s := by
  simp only [List.any_cons, List.any_nil, Bool.or_false, opB]
  rw [show (⟨#[43]⟩ : ByteArray).toList = [43] by simp [Lib.toList_data], show (⟨#[45]⟩ : ByteArray).toList = [45] by simp [Lib.toList_data], show (⟨#[42]⟩ : ByteArray).toList = [42] by simp [Lib.toList_data]];rw [BEq.comm (a := [43]), BEq.comm (a := [45]), BEq.comm (a := [42])]
 have hx := refIn_any [⟨#[43]⟩, ⟨#[45]⟩, ⟨#[42]⟩] s b w hst (by decide);rw [hb] at hx;exact hx
set_option maxRecDepth 100000 in
set_option maxHeartbeats 4000000 in
theorem refTm_zero : RefTmAt 0 := by
 intro t S w c0 c1 c2 c3 c4 c5 c6 hS ht;obtain ⟨fa, fc, ga, gc, rfl, rfl, rfl, rfl, rfl, rfl, rfl⟩ := ht.form;have HF := Lib.hid (rightM_zero t);go_enter Tryz.func116, Tryz.ntmps116
 go_wp2_with fail
 have x1 := boxM_new w (.int .i64 t.kind) (.string t.name) (.int .i64 t.val.kind) (.int .i64 t.val.num) (.string t.val.text) (.slice fa t.val.list.length fc) (.slice ga t.args.length gc);have b1 := below_alloc w (.cells #[.int .i64 t.kind, .string t.name, .int .i64 t.val.kind, .int .i64 t.val.num, .string t.val.text, .slice fa t.val.list.length fc, .slice ga t.args.length gc] 34);generalize w.alloc (.cells #[.int .i64 t.kind, .string t.name, .int .i64 t.val.kind, .int .i64 t.val.num, .string t.val.text, .slice fa t.val.list.length fc, .slice ga t.args.length gc] 34) = w1 at *;have X1 := Lib.hid x1; have B1 := Lib.hid b1
 clear x1 b1;obtain ⟨p0, p1, p2, p3, p4, p5, p6⟩ := X1.out.cells;go_ret
 exact ⟨ret_bool HF.out.symm, B1.out⟩
set_option maxRecDepth 100000 in
set_option maxHeartbeats 16000000 in
theorem refTm_k1 (d : Nat) (hd : d ≤ 100) (h : RefTmAt d) (t : Tm) (S : Nat → Prop) (w : World) (c0 c1 c2 c3 c4 c5 c6 : Value) (hS : ∀ k, S k → k < w.heap.size) (ht : RepM S w t c0 c1 c2 c3 c4 c5 c6) (e1 : t.kind = 1) :
  Calls Tryz.prog 116 #[.agg #[c0, c1, c2, c3, c4, c5, c6], .int .i64 ((d + 1 : Nat) : Int)] w fun e w' => e = .returned (.bool (rightM (d + 1) t)) ∧ Below w.heap.size w w' := by
 have HV := Lib.hid ht.value; have HL := Lib.hid ht.lst; have HH := Lib.hid h
 have HNS := Lib.hid ht.bounds.2;obtain ⟨fa, fc, ga, gc, rfl, rfl, rfl, rfl, rfl, rfl, rfl⟩ := ht.form
 have HF0 : Hid (rightM (d + 1) t = if t.kind = 1 then varB t.name && (noneB t.val && t.args.isEmpty)
  else if t.kind = 2 then t.name.toList.isEmpty && (valB t.val && t.args.isEmpty)
  else if t.kind = 3 then noneB t.val && listB (fnArity (fnOf t.name)) (fnArity (fnOf t.name)) (rightM d) t.args
  else if t.kind = 4 then opB t.name && (noneB t.val && listB 2 2 (rightM d) t.args)
  else false) := by cases t; exact rightM_succ _ _ _ _ _
 have hlen : t.args.length * 104 ≤ 140737488355328 := SlG.bytes ht.lst;clear ht h;rw [show (((d + 1 : Nat)) : Int) = (d : Int) + 1 from by omega];have hd1 : decide ((d : Int) + 1 < 1) = false := by simp; omega
 have hd2 : (d : Int) + 1 - 1 = d := by omega
 have hd3 : IntKind.i64.wrap (d : Int) = d := by rw [IntKind.wrap_i64]; omega
 have hie := isEmpty_len t.args;obtain ⟨nb, hnb⟩ : ∃ b, noneB t.val = b := ⟨_, rfl⟩;have HNB := Lib.hid hnb
 ·have HF1 : Hid (rightM (d + 1) t = (varB t.name && (nb && t.args.isEmpty))) := by show _ = _; rw [HF0.out, if_pos e1, hnb]
  have k1 : (t.kind == 1) = true := by simp [e1]
  clear HF0 e1 hnb
  cases h1 : varB t.name
  all_goals
   cases nb
   all_goals
    cases h3 : ((t.args.length : Int) == 0)
    all_goals
     have HF := Lib.hid HF1.out;rw [h1, hie, h3] at HF;have H1 := Lib.hid h1;clear HF1 hie;go_enter Tryz.func116, Tryz.ntmps116
     go_wp2_with fail
     have x1 := boxM_new w (.int .i64 t.kind) (.string t.name) (.int .i64 t.val.kind) (.int .i64 t.val.num) (.string t.val.text) (.slice fa t.val.list.length fc) (.slice ga t.args.length gc);have b1 := below_alloc w (.cells #[.int .i64 t.kind, .string t.name, .int .i64 t.val.kind, .int .i64 t.val.num, .string t.val.text, .slice fa t.val.list.length fc, .slice ga t.args.length gc] 34);generalize w.alloc (.cells #[.int .i64 t.kind, .string t.name, .int .i64 t.val.kind, .int .i64 t.val.num, .string t.val.text, .slice fa t.val.list.length fc, .slice ga t.args.length gc] 34) = w1 at *;have X1 := Lib.hid x1; have B1 := Lib.hid b1
     clear x1 b1;obtain ⟨p0, p1, p2, p3, p4, p5, p6⟩ := X1.out.cells;refine (refUpper_any t.name _ HNS.out).mono ?_;rw [H1.out];rintro e w' ⟨rfl, rfl⟩;go_wp2_with fail
     refine (refNone_any t.val S w1 _ _ _ _ (RepG.on (fun _ h => h) (fun k hk => B1.out.block k (hS k hk)) t.val HV.out)).mono ?_;rw [HNB.out];rintro e w2 ⟨rfl, hb⟩;have X2 := Lib.hid (X1.out.on hb);have B2 := Lib.hid (Below.step B1.out hb);clear hb;clear p0 p1 p2 p3 p4 p5 p6;obtain ⟨p0, p1, p2, p3, p4, p5, p6⟩ := X2.out.cells;go_wp2_with fail
     go_ret
     exact ⟨ret_bool HF.out.symm, B2.out⟩
set_option maxRecDepth 100000 in
set_option maxHeartbeats 16000000 in
theorem refTm_k2 (d : Nat) (hd : d ≤ 100) (h : RefTmAt d) (t : Tm) (S : Nat → Prop) (w : World) (c0 c1 c2 c3 c4 c5 c6 : Value) (hS : ∀ k, S k → k < w.heap.size) (ht : RepM S w t c0 c1 c2 c3 c4 c5 c6) (e1 : ¬ t.kind = 1) (e2 : t.kind = 2) :
  Calls Tryz.prog 116 #[.agg #[c0, c1, c2, c3, c4, c5, c6], .int .i64 ((d + 1 : Nat) : Int)] w fun e w' => e = .returned (.bool (rightM (d + 1) t)) ∧ Below w.heap.size w w' := by
 have HV := Lib.hid ht.value; have HL := Lib.hid ht.lst; have HH := Lib.hid h
 have HNS := Lib.hid ht.bounds.2;obtain ⟨fa, fc, ga, gc, rfl, rfl, rfl, rfl, rfl, rfl, rfl⟩ := ht.form
 have HF0 : Hid (rightM (d + 1) t = if t.kind = 1 then varB t.name && (noneB t.val && t.args.isEmpty)
  else if t.kind = 2 then t.name.toList.isEmpty && (valB t.val && t.args.isEmpty)
  else if t.kind = 3 then noneB t.val && listB (fnArity (fnOf t.name)) (fnArity (fnOf t.name)) (rightM d) t.args
  else if t.kind = 4 then opB t.name && (noneB t.val && listB 2 2 (rightM d) t.args)
  else false) := by cases t; exact rightM_succ _ _ _ _ _
 have hlen : t.args.length * 104 ≤ 140737488355328 := SlG.bytes ht.lst;clear ht h;rw [show (((d + 1 : Nat)) : Int) = (d : Int) + 1 from by omega];have hd1 : decide ((d : Int) + 1 < 1) = false := by simp; omega
 have hd2 : (d : Int) + 1 - 1 = d := by omega
 have hd3 : IntKind.i64.wrap (d : Int) = d := by rw [IntKind.wrap_i64]; omega
 have hie := isEmpty_len t.args;obtain ⟨nb, hnb⟩ : ∃ b, noneB t.val = b := ⟨_, rfl⟩;have HNB := Lib.hid hnb;have k1 : (t.kind == 1) = false := by simp [e1]
 ·have HF1 : Hid (rightM (d + 1) t = (t.name.toList.isEmpty && ((rightV 4 t.val && !(t.val.kind == 3 && fnB t.val.text)) && t.args.isEmpty))) := by show _ = _; rw [HF0.out, if_neg e1, if_pos e2]; rfl
  have k2 : (t.kind == 2) = true := by simp [e2]
  have hfn : decide (0 ≤ fnArity (fnOf t.val.text)) = fnB t.val.text := rfl;obtain ⟨an, han⟩ : ∃ n, fnArity (fnOf t.val.text) = n := ⟨_, rfl⟩;have HAN := Lib.hid han;rw [han] at hfn;clear HF0 e1 e2 hnb han
  cases h1 : rightV 4 t.val
  all_goals
   cases h2 : t.name.toList.isEmpty
   all_goals
    cases h3 : ((t.args.length : Int) == 0)
    all_goals
     cases h4 : (t.val.kind == 3)
     all_goals
      cases h5 : fnB t.val.text
      all_goals
       have HF := Lib.hid HF1.out;rw [h1, h2, hie, h3, h4, h5] at HF;have hf5 := hfn;rw [h5] at hf5;have H1 := Lib.hid h1;clear HF1 hie hfn h1 h5;go_enter Tryz.func116, Tryz.ntmps116
       go_wp2_with fail
       have x1 := boxM_new w (.int .i64 t.kind) (.string t.name) (.int .i64 t.val.kind) (.int .i64 t.val.num) (.string t.val.text) (.slice fa t.val.list.length fc) (.slice ga t.args.length gc);have b1 := below_alloc w (.cells #[.int .i64 t.kind, .string t.name, .int .i64 t.val.kind, .int .i64 t.val.num, .string t.val.text, .slice fa t.val.list.length fc, .slice ga t.args.length gc] 34);generalize w.alloc (.cells #[.int .i64 t.kind, .string t.name, .int .i64 t.val.kind, .int .i64 t.val.num, .string t.val.text, .slice fa t.val.list.length fc, .slice ga t.args.length gc] 34) = w1 at *;have X1 := Lib.hid x1; have B1 := Lib.hid b1
       clear x1 b1;obtain ⟨p0, p1, p2, p3, p4, p5, p6⟩ := X1.out.cells;refine (refRight_any t.val w1.heap.size w1 _ _ _ _ (Nat.le_refl _) (RepG.on (fun k hk => Nat.lt_of_lt_of_le (hS k hk) B1.out.size) (fun k hk => B1.out.block k (hS k hk)) t.val HV.out)).mono ?_;rw [H1.out];rintro e w2 ⟨rfl, hb⟩;have X2 := Lib.hid (X1.out.on hb);have B2 := Lib.hid (Below.step B1.out hb);clear hb;clear p0 p1 p2 p3 p4 p5 p6;obtain ⟨p0, p1, p2, p3, p4, p5, p6⟩ := X2.out.cells;go_wp2_with fail
       first
        | (go_ret; exact ⟨ret_bool HF.out.symm, B2.out⟩)
        | (refine (refArity_any t.val.text _).mono ?_; unfold ArPost; rw [HAN.out]; rintro e w' ⟨rfl, rfl⟩; go_wp2_with fail; go_ret; exact ⟨ret_bool HF.out.symm, B2.out⟩)
set_option maxRecDepth 100000 in
set_option maxHeartbeats 16000000 in
theorem refTm_k3 (d : Nat) (hd : d ≤ 100) (h : RefTmAt d) (t : Tm) (S : Nat → Prop) (w : World) (c0 c1 c2 c3 c4 c5 c6 : Value) (hS : ∀ k, S k → k < w.heap.size) (ht : RepM S w t c0 c1 c2 c3 c4 c5 c6) (e1 : ¬ t.kind = 1) (e2 : ¬ t.kind = 2) (e3 : t.kind = 3) :
  Calls Tryz.prog 116 #[.agg #[c0, c1, c2, c3, c4, c5, c6], .int .i64 ((d + 1 : Nat) : Int)] w fun e w' => e = .returned (.bool (rightM (d + 1) t)) ∧ Below w.heap.size w w' := by
 have HV := Lib.hid ht.value; have HL := Lib.hid ht.lst; have HH := Lib.hid h
 have HNS := Lib.hid ht.bounds.2;obtain ⟨fa, fc, ga, gc, rfl, rfl, rfl, rfl, rfl, rfl, rfl⟩ := ht.form
 have HF0 : Hid (rightM (d + 1) t = if t.kind = 1 then varB t.name && (noneB t.val && t.args.isEmpty)
  else if t.kind = 2 then t.name.toList.isEmpty && (valB t.val && t.args.isEmpty)
  else if t.kind = 3 then noneB t.val && listB (fnArity (fnOf t.name)) (fnArity (fnOf t.name)) (rightM d) t.args
  else if t.kind = 4 then opB t.name && (noneB t.val && listB 2 2 (rightM d) t.args)
  else false) := by cases t; exact rightM_succ _ _ _ _ _
 have hlen : t.args.length * 104 ≤ 140737488355328 := SlG.bytes ht.lst;clear ht h;rw [show (((d + 1 : Nat)) : Int) = (d : Int) + 1 from by omega];have hd1 : decide ((d : Int) + 1 < 1) = false := by simp; omega
 have hd2 : (d : Int) + 1 - 1 = d := by omega
 have hd3 : IntKind.i64.wrap (d : Int) = d := by rw [IntKind.wrap_i64]; omega
 have hie := isEmpty_len t.args;obtain ⟨nb, hnb⟩ : ∃ b, noneB t.val = b := ⟨_, rfl⟩;have HNB := Lib.hid hnb;have k1 : (t.kind == 1) = false := by simp [e1]
 have k2 : (t.kind == 2) = false := by simp [e2]
 ·have k3 : (t.kind == 3) = true := by simp [e3]
  obtain ⟨ar, har⟩ : ∃ n, fnArity (fnOf t.name) = n := ⟨_, rfl⟩;have HAR := Lib.hid har;have HF1 : Hid (rightM (d + 1) t = (nb && listB ar ar (rightM d) t.args)) := by show _ = _; rw [HF0.out, if_neg e1, if_neg e2, if_pos e3, hnb, har]
  clear HF0 e1 e2 e3 hnb har hie
  by_cases hal : ar = (t.args.length : Int)
  case neg =>
   have HF : Hid (rightM (d + 1) t = false) := by
    show _ = _
    rw [HF1.out];rcases Int.lt_or_le (t.args.length : Int) ar with h | h
    ·rw [listB_few h, Bool.and_false]
    ·rw [listB_many (by omega), Bool.and_false]
   have hne : (ar != (t.args.length : Int)) = true := by simpa using hal
   have hne2 : (ar == (t.args.length : Int)) = false := by simpa using hal
   clear hal HF1;go_enter Tryz.func116, Tryz.ntmps116
   go_wp2_with fail
   have x1 := boxM_new w (.int .i64 t.kind) (.string t.name) (.int .i64 t.val.kind) (.int .i64 t.val.num) (.string t.val.text) (.slice fa t.val.list.length fc) (.slice ga t.args.length gc);have b1 := below_alloc w (.cells #[.int .i64 t.kind, .string t.name, .int .i64 t.val.kind, .int .i64 t.val.num, .string t.val.text, .slice fa t.val.list.length fc, .slice ga t.args.length gc] 34);generalize w.alloc (.cells #[.int .i64 t.kind, .string t.name, .int .i64 t.val.kind, .int .i64 t.val.num, .string t.val.text, .slice fa t.val.list.length fc, .slice ga t.args.length gc] 34) = w1 at *;have X1 := Lib.hid x1; have B1 := Lib.hid b1
   clear x1 b1;obtain ⟨p0, p1, p2, p3, p4, p5, p6⟩ := X1.out.cells;generalize w.heap.size = bt at X1 ⊢;have HK := Lib.hid (Below.drew (Below.refl w1.heap.size w1))
   go_region_held3 (fun w' => w'.cell? ⟨bt, 0, none⟩ = some (.int .i64 t.kind) ∧ w'.cell? ⟨bt, 1, none⟩ = some (.string t.name) ∧ w'.cell? ⟨bt, 2, none⟩ = some (.int .i64 t.val.kind) ∧ w'.cell? ⟨bt, 3, none⟩ = some (.int .i64 t.val.num) ∧ w'.cell? ⟨bt, 4, none⟩ = some (.string t.val.text) ∧ w'.cell? ⟨bt, 5, none⟩ = some (.slice fa t.val.list.length fc) ∧ w'.cell? ⟨bt, 6, none⟩ = some (.slice ga t.args.length gc))
    (first | exact ⟨(X1.out.on HK.out).cells.1, (X1.out.on HK.out).cells.2.1, (X1.out.on HK.out).cells.2.2.1, (X1.out.on HK.out).cells.2.2.2.1, (X1.out.on HK.out).cells.2.2.2.2.1, (X1.out.on HK.out).cells.2.2.2.2.2.1, (X1.out.on HK.out).cells.2.2.2.2.2.2⟩)
    (first | (go_at_call 32; refine (refArity_any t.name _).mono ?_; unfold ArPost; rw [HAR.out]; rintro e w' ⟨rfl, rfl⟩))
   obtain ⟨w2, hw2⟩ : ∃ w2 : World, w2 = w1.drew := ⟨_, rfl⟩;have X2 := Lib.hid (X1.out.on HK.out); have B2 := Lib.hid (Below.step B1.out HK.out)
   rw [← hw2] at X2 B2 ⊢;clear HK hw2 p0 p1 p2 p3 p4 p5 p6;obtain ⟨p0, p1, p2, p3, p4, p5, p6⟩ := X2.out.cells;go_wp2_with fail
   go_ret
   exact ⟨ret_bool HF.out.symm, B2.out⟩
  have HR0 : Hid (rightM (d + 1) t = (nb && t.args.all (rightM d))) := by show _ = _; rw [HF1.out, listB_some (by omega) (by omega)]
  have hne : (ar != (t.args.length : Int)) = false := by simp [hal]
  have hne2 : (ar == (t.args.length : Int)) = true := by simp [hal]
  clear hal HF1;go_enter Tryz.func116, Tryz.ntmps116
  go_wp2_with fail
  have x1 := boxM_new w (.int .i64 t.kind) (.string t.name) (.int .i64 t.val.kind) (.int .i64 t.val.num) (.string t.val.text) (.slice fa t.val.list.length fc) (.slice ga t.args.length gc);have b1 := below_alloc w (.cells #[.int .i64 t.kind, .string t.name, .int .i64 t.val.kind, .int .i64 t.val.num, .string t.val.text, .slice fa t.val.list.length fc, .slice ga t.args.length gc] 34);generalize w.alloc (.cells #[.int .i64 t.kind, .string t.name, .int .i64 t.val.kind, .int .i64 t.val.num, .string t.val.text, .slice fa t.val.list.length fc, .slice ga t.args.length gc] 34) = w1 at *;have X1 := Lib.hid x1; have B1 := Lib.hid b1
  clear x1 b1;obtain ⟨p0, p1, p2, p3, p4, p5, p6⟩ := X1.out.cells;generalize w.heap.size = bt at X1 ⊢;have HK := Lib.hid (Below.drew (Below.refl w1.heap.size w1))
  go_region_held3 (fun w' => w'.cell? ⟨bt, 0, none⟩ = some (.int .i64 t.kind) ∧ w'.cell? ⟨bt, 1, none⟩ = some (.string t.name) ∧ w'.cell? ⟨bt, 2, none⟩ = some (.int .i64 t.val.kind) ∧ w'.cell? ⟨bt, 3, none⟩ = some (.int .i64 t.val.num) ∧ w'.cell? ⟨bt, 4, none⟩ = some (.string t.val.text) ∧ w'.cell? ⟨bt, 5, none⟩ = some (.slice fa t.val.list.length fc) ∧ w'.cell? ⟨bt, 6, none⟩ = some (.slice ga t.args.length gc))
   (first | exact ⟨(X1.out.on HK.out).cells.1, (X1.out.on HK.out).cells.2.1, (X1.out.on HK.out).cells.2.2.1, (X1.out.on HK.out).cells.2.2.2.1, (X1.out.on HK.out).cells.2.2.2.2.1, (X1.out.on HK.out).cells.2.2.2.2.2.1, (X1.out.on HK.out).cells.2.2.2.2.2.2⟩)
   (first | (go_at_call 32; refine (refArity_any t.name _).mono ?_; unfold ArPost; rw [HAR.out]; rintro e w' ⟨rfl, rfl⟩))
  obtain ⟨w2, hw2⟩ : ∃ w2 : World, w2 = w1.drew := ⟨_, rfl⟩;have X2 := Lib.hid (X1.out.on HK.out); have B2 := Lib.hid (Below.step B1.out HK.out)
  rw [← hw2] at X2 B2 ⊢;clear HK hw2 p0 p1 p2 p3 p4 p5 p6;obtain ⟨p0, p1, p2, p3, p4, p5, p6⟩ := X2.out.cells;go_wp2_with fail
  refine (refNone_any t.val S w2 _ _ _ _ (RepG.on (fun _ h => h) (fun k hk => B2.out.block k (hS k hk)) t.val HV.out)).mono ?_;rw [HNB.out];rintro e w3 ⟨rfl, hb⟩;have X3 := Lib.hid (X2.out.on hb);have B3 := Lib.hid (Below.step B2.out hb);clear hb;clear p0 p1 p2 p3 p4 p5 p6;obtain ⟨p0, p1, p2, p3, p4, p5, p6⟩ := X3.out.cells;go_wp2_with fail
  have HSZ := Lib.hid (fun k (hk : S k) => Nat.lt_of_lt_of_le (hS k hk) B3.out.size);have HLS := Lib.hid (RepMs.on (fun _ h => h) (fun k hk => B3.out.block k (hS k hk)) HL.out : RepMs S w3 t.args (.slice ga t.args.length gc));clear p0 p1 p2 p3 p4 p5 p6;go_loopw [10, 9, 11] (fun i e _ wr => ∃ (k : Nat) (bb : Bool), k ≤ t.args.length ∧ i = .int .i64 k ∧ e = .bool bb ∧ Hid (bb = (nb && (t.args.take k).all (rightM d))) ∧ Below w3.heap.size w3 wr) (fun i _ _ _ => t.args.length - (intOf i).toNat)
  case atStart => exact ⟨0, nb, Nat.zero_le _, rfl, rfl, by show _ = _; simp, Below.refl _ _⟩
  case round =>
   obtain ⟨k, bb, hk, rfl, rfl, hrec, hbel⟩ := hrel;have XR := Lib.hid (X3.out.on hbel); have HBEL := Lib.hid hbel
   obtain ⟨p0, p1, p2, p3, p4, p5, p6⟩ := XR.out.cells
   by_cases hl : k < t.args.length
   ·have hA := (RepMs.on (fun _ h => h) (fun j hj => hbel.block j (HSZ.out j hj)) HLS.out : RepMs S wr t.args (.slice ga t.args.length gc))
    obtain ⟨-, hcap, lb, lo, ea, ec, ia, ic, hga, hSb, g0, g1, g2, g3, g4, g5, g6, g⟩ := RepMs.at hA k hl;rw [hga] at p6;have G := Lib.hid g;have hts : t.args.take (k + 1) = t.args.take k ++ [t.args[k]] := List.take_succ_eq_append_getElem hl;have HX : Hid ((t.args.take (k + 1)).all (rightM d) = ((t.args.take k).all (rightM d) && rightM d t.args[k])) := by show _ = _; rw [hts, List.all_append, List.all_cons, List.all_nil, Bool.and_true]
    clear hA g hts hbel;have HGA := Lib.hid hga; clear hga
    generalize t.args[k] = z at *;go_wp2_with fail
    refine (HH.out z S _ _ _ _ _ _ _ _ (fun j hj => Nat.lt_of_lt_of_le (HSZ.out j hj) HBEL.out.size) G.out).mono ?_;obtain ⟨rz, hrz⟩ : ∃ b, rightM d z = b := ⟨_, rfl⟩;have HRZ := Lib.hid hrz;rw [hrz];clear hrz;rintro e w3 ⟨rfl, hb⟩;have HB3 := Lib.hid (Below.step HBEL.out hb);clear hb p0 p1 p2 p3 p4 p5 p6 g0 g1 g2 g3 g4 g5 g6
    cases bb
    all_goals
     go_wp2_with fail
     go_roundw
     case rel => exact ⟨k + 1, _, by omega, by go_num, rfl, (by show _ = _; rw [HX.out, HRZ.out, ← Bool.and_assoc, ← hrec.out]; first | rfl | simp), HB3.out⟩
     case measure => simp [intOf]; omega
   ·have HF : Hid (rightM (d + 1) t = bb) := by show _ = _; rw [HR0.out, hrec.out, List.take_of_length_le (by omega)]
    have HB3 := Lib.hid (Below.step B3.out hbel);clear hbel;go_wp2_with fail
    go_ret
    exact ⟨ret_bool HF.out.symm, HB3.out⟩
set_option maxRecDepth 100000 in
set_option maxHeartbeats 16000000 in
theorem refTm_k4 (d : Nat) (hd : d ≤ 100) (h : RefTmAt d) (t : Tm) (S : Nat → Prop) (w : World) (c0 c1 c2 c3 c4 c5 c6 : Value) (hS : ∀ k, S k → k < w.heap.size) (ht : RepM S w t c0 c1 c2 c3 c4 c5 c6) (e1 : ¬ t.kind = 1) (e2 : ¬ t.kind = 2) (e3 : ¬ t.kind = 3) (e4 : t.kind = 4) :
  Calls Tryz.prog 116 #[.agg #[c0, c1, c2, c3, c4, c5, c6], .int .i64 ((d + 1 : Nat) : Int)] w fun e w' => e = .returned (.bool (rightM (d + 1) t)) ∧ Below w.heap.size w w' := by
 have HV := Lib.hid ht.value; have HL := Lib.hid ht.lst; have HH := Lib.hid h
 have HNS := Lib.hid ht.bounds.2;obtain ⟨fa, fc, ga, gc, rfl, rfl, rfl, rfl, rfl, rfl, rfl⟩ := ht.form
 have HF0 : Hid (rightM (d + 1) t = if t.kind = 1 then varB t.name && (noneB t.val && t.args.isEmpty)
  else if t.kind = 2 then t.name.toList.isEmpty && (valB t.val && t.args.isEmpty)
  else if t.kind = 3 then noneB t.val && listB (fnArity (fnOf t.name)) (fnArity (fnOf t.name)) (rightM d) t.args
  else if t.kind = 4 then opB t.name && (noneB t.val && listB 2 2 (rightM d) t.args)
  else false) := by cases t; exact rightM_succ _ _ _ _ _
 have hlen : t.args.length * 104 ≤ 140737488355328 := SlG.bytes ht.lst;clear ht h;rw [show (((d + 1 : Nat)) : Int) = (d : Int) + 1 from by omega];have hd1 : decide ((d : Int) + 1 < 1) = false := by simp; omega
 have hd2 : (d : Int) + 1 - 1 = d := by omega
 have hd3 : IntKind.i64.wrap (d : Int) = d := by rw [IntKind.wrap_i64]; omega
 have hie := isEmpty_len t.args;obtain ⟨nb, hnb⟩ : ∃ b, noneB t.val = b := ⟨_, rfl⟩;have HNB := Lib.hid hnb;have k1 : (t.kind == 1) = false := by simp [e1]
 have k2 : (t.kind == 2) = false := by simp [e2]
 have k3 : (t.kind == 3) = false := by simp [e3]
 ·have k4 : (t.kind == 4) = true := by simp [e4]
  have HF1 : Hid (rightM (d + 1) t = (opB t.name && (nb && listB 2 2 (rightM d) t.args))) := by show _ = _; rw [HF0.out, if_neg e1, if_neg e2, if_neg e3, if_pos e4, hnb]
  obtain ⟨ob, hob⟩ : ∃ b, opB t.name = b := ⟨_, rfl⟩;have HO := Lib.hid hob;rw [hob] at HF1;clear HF0 e1 e2 e3 e4 hnb hie hob
  cases ob with
  | false =>
   have HF : Hid (rightM (d + 1) t = false) := HF1.out;clear HF1;go_enter Tryz.func116, Tryz.ntmps116
   go_wp2_with fail
   have x1 := boxM_new w (.int .i64 t.kind) (.string t.name) (.int .i64 t.val.kind) (.int .i64 t.val.num) (.string t.val.text) (.slice fa t.val.list.length fc) (.slice ga t.args.length gc);have b1 := below_alloc w (.cells #[.int .i64 t.kind, .string t.name, .int .i64 t.val.kind, .int .i64 t.val.num, .string t.val.text, .slice fa t.val.list.length fc, .slice ga t.args.length gc] 34);have s1 := World.size_alloc w (.cells #[.int .i64 t.kind, .string t.name, .int .i64 t.val.kind, .int .i64 t.val.num, .string t.val.text, .slice fa t.val.list.length fc, .slice ga t.args.length gc] 34);generalize w.alloc (.cells #[.int .i64 t.kind, .string t.name, .int .i64 t.val.kind, .int .i64 t.val.num, .string t.val.text, .slice fa t.val.list.length fc, .slice ga t.args.length gc] 34) = w1 at *;have X1 := Lib.hid x1; have B1 := Lib.hid b1
   have S1 := Lib.hid s1;clear x1 b1 s1;obtain ⟨p0, p1, p2, p3, p4, p5, p6⟩ := X1.out.cells;have hba := below_alloc w1 (.cells #[.string ⟨#[43]⟩, .string ⟨#[45]⟩, .string ⟨#[42]⟩] 9);have hnw := alloc_new' w1 (.cells #[.string ⟨#[43]⟩, .string ⟨#[45]⟩, .string ⟨#[42]⟩] 9);have X2 := Lib.hid (X1.out.on hba); have B2 := Lib.hid (Below.step B1.out hba)
   clear p0 p1 p2 p3 p4 p5 p6;generalize w1.alloc (.cells #[.string ⟨#[43]⟩, .string ⟨#[45]⟩, .string ⟨#[42]⟩] 9) = w2 at *;rw [S1.out] at hnw;refine (ops_any t.name (w.heap.size + 1) w2 (cell_of_block' hnw _ rfl) (cell_of_block' hnw _ rfl) (cell_of_block' hnw _ rfl)).mono ?_;rw [HO.out];rintro e w' ⟨rfl, rfl⟩;clear hnw hba;obtain ⟨p0, p1, p2, p3, p4, p5, p6⟩ := X2.out.cells;go_wp2_with fail
   go_ret
   exact ⟨ret_bool HF.out.symm, B2.out⟩
  | true =>
  by_cases hal : t.args.length = 2
  case neg =>
   have HF : Hid (rightM (d + 1) t = false) := by
    show _ = _
    rw [HF1.out];rcases Nat.lt_or_ge t.args.length 2 with h | h
    ·rw [listB_few (by omega), Bool.and_false]; rfl
    ·rw [listB_many (by omega), Bool.and_false]; rfl
   have hne : ((t.args.length : Int) != 2) = true := by simp; omega
   have hne2 : ((t.args.length : Int) == 2) = false := by simp; omega
   clear hal HF1;go_enter Tryz.func116, Tryz.ntmps116
   go_wp2_with fail
   have x1 := boxM_new w (.int .i64 t.kind) (.string t.name) (.int .i64 t.val.kind) (.int .i64 t.val.num) (.string t.val.text) (.slice fa t.val.list.length fc) (.slice ga t.args.length gc);have b1 := below_alloc w (.cells #[.int .i64 t.kind, .string t.name, .int .i64 t.val.kind, .int .i64 t.val.num, .string t.val.text, .slice fa t.val.list.length fc, .slice ga t.args.length gc] 34);have s1 := World.size_alloc w (.cells #[.int .i64 t.kind, .string t.name, .int .i64 t.val.kind, .int .i64 t.val.num, .string t.val.text, .slice fa t.val.list.length fc, .slice ga t.args.length gc] 34);generalize w.alloc (.cells #[.int .i64 t.kind, .string t.name, .int .i64 t.val.kind, .int .i64 t.val.num, .string t.val.text, .slice fa t.val.list.length fc, .slice ga t.args.length gc] 34) = w1 at *;have X1 := Lib.hid x1; have B1 := Lib.hid b1
   have S1 := Lib.hid s1;clear x1 b1 s1;obtain ⟨p0, p1, p2, p3, p4, p5, p6⟩ := X1.out.cells;have hba := below_alloc w1 (.cells #[.string ⟨#[43]⟩, .string ⟨#[45]⟩, .string ⟨#[42]⟩] 9);have hnw := alloc_new' w1 (.cells #[.string ⟨#[43]⟩, .string ⟨#[45]⟩, .string ⟨#[42]⟩] 9);have X2 := Lib.hid (X1.out.on hba); have B2 := Lib.hid (Below.step B1.out hba)
   clear p0 p1 p2 p3 p4 p5 p6;generalize w1.alloc (.cells #[.string ⟨#[43]⟩, .string ⟨#[45]⟩, .string ⟨#[42]⟩] 9) = w2 at *;rw [S1.out] at hnw;refine (ops_any t.name (w.heap.size + 1) w2 (cell_of_block' hnw _ rfl) (cell_of_block' hnw _ rfl) (cell_of_block' hnw _ rfl)).mono ?_;rw [HO.out];rintro e w' ⟨rfl, rfl⟩;clear hnw hba;obtain ⟨p0, p1, p2, p3, p4, p5, p6⟩ := X2.out.cells;go_wp2_with fail
   go_ret
   exact ⟨ret_bool HF.out.symm, B2.out⟩
  have HR0 : Hid (rightM (d + 1) t = (nb && t.args.all (rightM d))) := by show _ = _; rw [HF1.out, listB_some (by omega) (by omega), Bool.true_and]
  have hne : ((t.args.length : Int) != 2) = false := by simp [hal]
  have hne2 : ((t.args.length : Int) == 2) = true := by simp [hal]
  clear hal HF1;go_enter Tryz.func116, Tryz.ntmps116
  go_wp2_with fail
  have x1 := boxM_new w (.int .i64 t.kind) (.string t.name) (.int .i64 t.val.kind) (.int .i64 t.val.num) (.string t.val.text) (.slice fa t.val.list.length fc) (.slice ga t.args.length gc);have b1 := below_alloc w (.cells #[.int .i64 t.kind, .string t.name, .int .i64 t.val.kind, .int .i64 t.val.num, .string t.val.text, .slice fa t.val.list.length fc, .slice ga t.args.length gc] 34);have s1 := World.size_alloc w (.cells #[.int .i64 t.kind, .string t.name, .int .i64 t.val.kind, .int .i64 t.val.num, .string t.val.text, .slice fa t.val.list.length fc, .slice ga t.args.length gc] 34);generalize w.alloc (.cells #[.int .i64 t.kind, .string t.name, .int .i64 t.val.kind, .int .i64 t.val.num, .string t.val.text, .slice fa t.val.list.length fc, .slice ga t.args.length gc] 34) = w1 at *;have X1 := Lib.hid x1; have B1 := Lib.hid b1
  have S1 := Lib.hid s1;clear x1 b1 s1;obtain ⟨p0, p1, p2, p3, p4, p5, p6⟩ := X1.out.cells;have hba := below_alloc w1 (.cells #[.string ⟨#[43]⟩, .string ⟨#[45]⟩, .string ⟨#[42]⟩] 9);have hnw := alloc_new' w1 (.cells #[.string ⟨#[43]⟩, .string ⟨#[45]⟩, .string ⟨#[42]⟩] 9);have X2 := Lib.hid (X1.out.on hba); have B2 := Lib.hid (Below.step B1.out hba)
  clear p0 p1 p2 p3 p4 p5 p6;generalize w1.alloc (.cells #[.string ⟨#[43]⟩, .string ⟨#[45]⟩, .string ⟨#[42]⟩] 9) = w2 at *;rw [S1.out] at hnw;refine (ops_any t.name (w.heap.size + 1) w2 (cell_of_block' hnw _ rfl) (cell_of_block' hnw _ rfl) (cell_of_block' hnw _ rfl)).mono ?_;rw [HO.out];rintro e w' ⟨rfl, rfl⟩;clear hnw hba;obtain ⟨p0, p1, p2, p3, p4, p5, p6⟩ := X2.out.cells;go_wp2_with fail
  refine (refNone_any t.val S w2 _ _ _ _ (RepG.on (fun _ h => h) (fun k hk => B2.out.block k (hS k hk)) t.val HV.out)).mono ?_;rw [HNB.out];rintro e w3 ⟨rfl, hb⟩;have X3 := Lib.hid (X2.out.on hb);have B3 := Lib.hid (Below.step B2.out hb);clear hb;clear p0 p1 p2 p3 p4 p5 p6;obtain ⟨p0, p1, p2, p3, p4, p5, p6⟩ := X3.out.cells;go_wp2_with fail
  have HSZ := Lib.hid (fun k (hk : S k) => Nat.lt_of_lt_of_le (hS k hk) B3.out.size);have HLS := Lib.hid (RepMs.on (fun _ h => h) (fun k hk => B3.out.block k (hS k hk)) HL.out : RepMs S w3 t.args (.slice ga t.args.length gc));clear p0 p1 p2 p3 p4 p5 p6;go_loopw [10, 9, 11] (fun i e _ wr => ∃ (k : Nat) (bb : Bool), k ≤ t.args.length ∧ i = .int .i64 k ∧ e = .bool bb ∧ Hid (bb = (nb && (t.args.take k).all (rightM d))) ∧ Below w3.heap.size w3 wr) (fun i _ _ _ => t.args.length - (intOf i).toNat)
  case atStart => exact ⟨0, nb, Nat.zero_le _, rfl, rfl, by show _ = _; simp, Below.refl _ _⟩
  case round =>
   obtain ⟨k, bb, hk, rfl, rfl, hrec, hbel⟩ := hrel;have XR := Lib.hid (X3.out.on hbel); have HBEL := Lib.hid hbel
   obtain ⟨p0, p1, p2, p3, p4, p5, p6⟩ := XR.out.cells
   by_cases hl : k < t.args.length
   ·have hA := (RepMs.on (fun _ h => h) (fun j hj => hbel.block j (HSZ.out j hj)) HLS.out : RepMs S wr t.args (.slice ga t.args.length gc))
    obtain ⟨-, hcap, lb, lo, ea, ec, ia, ic, hga, hSb, g0, g1, g2, g3, g4, g5, g6, g⟩ := RepMs.at hA k hl;rw [hga] at p6;have G := Lib.hid g;have hts : t.args.take (k + 1) = t.args.take k ++ [t.args[k]] := List.take_succ_eq_append_getElem hl;have HX : Hid ((t.args.take (k + 1)).all (rightM d) = ((t.args.take k).all (rightM d) && rightM d t.args[k])) := by show _ = _; rw [hts, List.all_append, List.all_cons, List.all_nil, Bool.and_true]
    clear hA g hts hbel;have HGA := Lib.hid hga; clear hga
    generalize t.args[k] = z at *;go_wp2_with fail
    refine (HH.out z S _ _ _ _ _ _ _ _ (fun j hj => Nat.lt_of_lt_of_le (HSZ.out j hj) HBEL.out.size) G.out).mono ?_;obtain ⟨rz, hrz⟩ : ∃ b, rightM d z = b := ⟨_, rfl⟩;have HRZ := Lib.hid hrz;rw [hrz];clear hrz;rintro e w3 ⟨rfl, hb⟩;have HB3 := Lib.hid (Below.step HBEL.out hb);clear hb p0 p1 p2 p3 p4 p5 p6 g0 g1 g2 g3 g4 g5 g6
    cases bb
    all_goals
     go_wp2_with fail
     go_roundw
     case rel => exact ⟨k + 1, _, by omega, by go_num, rfl, (by show _ = _; rw [HX.out, HRZ.out, ← Bool.and_assoc, ← hrec.out]; first | rfl | simp), HB3.out⟩
     case measure => simp [intOf]; omega
   ·have HF : Hid (rightM (d + 1) t = bb) := by show _ = _; rw [HR0.out, hrec.out, List.take_of_length_le (by omega)]
    have HB3 := Lib.hid (Below.step B3.out hbel);clear hbel;go_wp2_with fail
    go_ret
    exact ⟨ret_bool HF.out.symm, HB3.out⟩
set_option maxRecDepth 100000 in
set_option maxHeartbeats 16000000 in
theorem refTm_k0 (d : Nat) (hd : d ≤ 100) (h : RefTmAt d) (t : Tm) (S : Nat → Prop) (w : World) (c0 c1 c2 c3 c4 c5 c6 : Value) (_hS : ∀ k, S k → k < w.heap.size) (ht : RepM S w t c0 c1 c2 c3 c4 c5 c6) (e1 : ¬ t.kind = 1) (e2 : ¬ t.kind = 2) (e3 : ¬ t.kind = 3) (e4 : ¬ t.kind = 4) :
  Calls Tryz.prog 116 #[.agg #[c0, c1, c2, c3, c4, c5, c6], .int .i64 ((d + 1 : Nat) : Int)] w fun e w' => e = .returned (.bool (rightM (d + 1) t)) ∧ Below w.heap.size w w' := by
 have HV := Lib.hid ht.value; have HL := Lib.hid ht.lst; have HH := Lib.hid h
 have HNS := Lib.hid ht.bounds.2;obtain ⟨fa, fc, ga, gc, rfl, rfl, rfl, rfl, rfl, rfl, rfl⟩ := ht.form
 have HF0 : Hid (rightM (d + 1) t = if t.kind = 1 then varB t.name && (noneB t.val && t.args.isEmpty)
  else if t.kind = 2 then t.name.toList.isEmpty && (valB t.val && t.args.isEmpty)
  else if t.kind = 3 then noneB t.val && listB (fnArity (fnOf t.name)) (fnArity (fnOf t.name)) (rightM d) t.args
  else if t.kind = 4 then opB t.name && (noneB t.val && listB 2 2 (rightM d) t.args)
  else false) := by cases t; exact rightM_succ _ _ _ _ _
 have hlen : t.args.length * 104 ≤ 140737488355328 := SlG.bytes ht.lst;clear ht h;rw [show (((d + 1 : Nat)) : Int) = (d : Int) + 1 from by omega];have hd1 : decide ((d : Int) + 1 < 1) = false := by simp; omega
 have hd2 : (d : Int) + 1 - 1 = d := by omega
 have hd3 : IntKind.i64.wrap (d : Int) = d := by rw [IntKind.wrap_i64]; omega
 have hie := isEmpty_len t.args;obtain ⟨nb, hnb⟩ : ∃ b, noneB t.val = b := ⟨_, rfl⟩;have HNB := Lib.hid hnb;have k1 : (t.kind == 1) = false := by simp [e1]
 have k2 : (t.kind == 2) = false := by simp [e2]
 have k3 : (t.kind == 3) = false := by simp [e3]
 have k4 : (t.kind == 4) = false := by simp [e4]
 have HF : Hid (rightM (d + 1) t = false) := by show _ = _; rw [HF0.out, if_neg e1, if_neg e2, if_neg e3, if_neg e4]
 clear HF0 e1 e2 e3 e4 hie hnb;go_enter Tryz.func116, Tryz.ntmps116
 go_wp2_with fail
 have x1 := boxM_new w (.int .i64 t.kind) (.string t.name) (.int .i64 t.val.kind) (.int .i64 t.val.num) (.string t.val.text) (.slice fa t.val.list.length fc) (.slice ga t.args.length gc);have b1 := below_alloc w (.cells #[.int .i64 t.kind, .string t.name, .int .i64 t.val.kind, .int .i64 t.val.num, .string t.val.text, .slice fa t.val.list.length fc, .slice ga t.args.length gc] 34);generalize w.alloc (.cells #[.int .i64 t.kind, .string t.name, .int .i64 t.val.kind, .int .i64 t.val.num, .string t.val.text, .slice fa t.val.list.length fc, .slice ga t.args.length gc] 34) = w1 at *;have X1 := Lib.hid x1; have B1 := Lib.hid b1
 clear x1 b1;obtain ⟨p0, p1, p2, p3, p4, p5, p6⟩ := X1.out.cells;go_ret
 exact ⟨ret_bool HF.out.symm, B1.out⟩
theorem refTm_succ (d : Nat) (hd : d ≤ 100) (h : RefTmAt d) : RefTmAt (d + 1) := by
 intro t S w c0 c1 c2 c3 c4 c5 c6 hS ht
 by_cases e1 : t.kind = 1
 ·exact refTm_k1 d hd h t S w _ _ _ _ _ _ _ hS ht e1
 by_cases e2 : t.kind = 2
 ·exact refTm_k2 d hd h t S w _ _ _ _ _ _ _ hS ht e1 e2
 by_cases e3 : t.kind = 3
 ·exact refTm_k3 d hd h t S w _ _ _ _ _ _ _ hS ht e1 e2 e3
 by_cases e4 : t.kind = 4
 ·exact refTm_k4 d hd h t S w _ _ _ _ _ _ _ hS ht e1 e2 e3 e4
 exact refTm_k0 d hd h t S w _ _ _ _ _ _ _ hS ht e1 e2 e3 e4
theorem refTm_any : ∀ d : Nat, d ≤ 100 → RefTmAt d
 | 0, _ => refTm_zero
 | d + 1, hd => refTm_succ d (by omega) (refTm_any d (by omega))
end Go.Proofs.YtjohcnhiblfbnaaGreat
