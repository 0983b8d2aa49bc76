/-
  PrLists
-/
import Derived.Test.YtgjemmdhamkngaaGreatDoorK05
import Derived.Test.YtgjemmdhamkngaaGreatDoorK07
namespace Go.Proofs.YtgjemmdhamkngaaGreatDoor
open Go.RowKit
set_option maxRecDepth 100000 in
set_option maxHeartbeats 1000000 in
theorem rl_terms (l : List Tm) (least most : Int) (R : Tm → Bool) (S : Nat → Prop) (w : World) (a : Value) (hS : ∀ k, S k → k < w.heap.size) (ha : RepMs S w l a)
  (tells : ∀ (wr : World), Below w.heap.size w wr → ∀ x ∈ l, ∀ (fa : Option Addr) (fc : Nat) (ga : Option Addr) (gc : Nat), RepM S wr x (.int .i64 x.kind) (.string x.name) (.int .i64 x.val.kind) (.int .i64 x.val.num) (.string x.val.text) (.slice fa x.val.list.length fc) (.slice ga x.args.length gc) → Calls Tryz.prog 53 #[.agg #[.int .i64 x.kind, .string x.name, .int .i64 x.val.kind, .int .i64 x.val.num, .string x.val.text, .slice fa x.val.list.length fc, .slice ga x.args.length gc]] wr fun e w' => e = .returned (.bool (R x)) ∧ Below wr.heap.size wr w') :
  Calls Tryz.prog 91 #[a, .int .i64 least, .int .i64 most, .func (.func 53) #[] #[]] w fun e w' => e = .returned (.bool (listB least most R l)) ∧ Below w.heap.size w w' := by
 have HA := Lib.hid ha; have HT := Lib.hid tells
 obtain ⟨aa, cap, rfl⟩ := SlG.form ha
 have hlen : l.length * 104 ≤ 140737488355328 := SlG.bytes ha
 clear ha tells
 by_cases h1 : (l.length : Int) < least
 ·have HF := Lib.hid (listB_few (most := most) (R := R) h1)
  have h1' : decide ((l.length : Int) < least) = true := by simpa using h1
  go_enter Tryz.func91, Tryz.ntmps91
  go_wp2_with fail
  go_ret
  exact ⟨ret_bool HF.out.symm, Below.refl _ _⟩
 have h1' : decide ((l.length : Int) < least) = false := by simpa using h1
 by_cases h2 : most < (l.length : Int)
 ·have HF := Lib.hid (listB_many (least := least) (R := R) h2)
  have h2' : decide (most < (l.length : Int)) = true := by simpa using h2
  go_enter Tryz.func91, Tryz.ntmps91
  go_wp2_with fail
  go_ret
  exact ⟨ret_bool HF.out.symm, Below.refl _ _⟩
 have h2' : decide (most < (l.length : Int)) = false := by simpa using h2
 have HL := Lib.hid (listB_some (R := R) (show least ≤ (l.length : Int) by omega) (show (l.length : Int) ≤ most by omega))
 clear h1 h2
 go_enter Tryz.func91, Tryz.ntmps91
 go_wp2_with fail
 go_loopw [23] (fun i wr => ∃ k : Nat, k ≤ l.length ∧ i = .int .i64 k ∧ Hid (l.all R = (l.drop k).all R) ∧ Below w.heap.size w wr) (fun i _ => l.length - (intOf i).toNat)
 case atStart => exact ⟨0, Nat.zero_le _, rfl, rfl, Below.refl _ _⟩
 case round =>
  obtain ⟨k, hk, rfl, hrec, hbel⟩ := hrel
  have HB := Lib.hid hbel
  clear h1' h2'
  by_cases hl : k < l.length
  ·have hA := RepMs.on (fun _ h => h) (fun j hj => hbel.block j (hS j hj)) HA.out
   obtain ⟨-, -, b, o, fa, fc, ga, gc, rfl, -, g0, g1, g2, g3, g4, g5, g6, g⟩ := RepMs.at hA k hl
   have G := Lib.hid g
   have HM := Lib.hid (show l[k] ∈ l from List.getElem_mem hl)
   have HD := Lib.hid (List.drop_eq_getElem_cons hl)
   clear hA g
   generalize l[k] = z at *
   have hba := below_alloc wr (.cells #[.int .i64 z.kind, .string z.name, .int .i64 z.val.kind, .int .i64 z.val.num, .string z.val.text, .slice fa z.val.list.length fc, .slice ga z.args.length gc] 46)
   have HZ := Lib.hid (RepM.on (fun _ h => h) (fun j hj => hba.block j (Nat.lt_of_lt_of_le (hS j hj) hbel.size)) z G.out)
   have HBA := Lib.hid (Below.step hbel hba)
   clear hbel hba
   have hen : ∀ args w, Sem.run Tryz.prog (callFunc 53 args) w = .ok (.enter 53 args) w := fun args w => by kernel_rfl
   go_wp2_with fail
   refine (HT.out _ HBA.out z HM.out fa fc ga gc HZ.out).mono ?_
   rintro e w3 ⟨rfl, hb3⟩
   have HB3 := Lib.hid (Below.step HBA.out hb3)
   clear hb3
   cases hc : R z with
   | true =>
    have HF : Hid (l.all R = (l.drop (k + 1)).all R) := by show _ = _; rw [hrec.out, HD.out, List.all_cons, hc, Bool.true_and]
    clear hc
    go_wp2_with fail
    go_roundw
    case rel => exact ⟨k + 1, by omega, by go_num, HF, HB3.out⟩
    case measure => simp [intOf]; omega
   | false =>
    have HF : Hid (listB least most R l = false) := by show _ = _; rw [HL.out, hrec.out, HD.out, List.all_cons, hc, Bool.false_and]
    clear hc
    go_wp2_with fail
    go_ret
    exact ⟨ret_bool HF.out.symm, HB3.out⟩
  ·have HF : Hid (listB least most R l = true) := by show _ = _; rw [HL.out, hrec.out, List.drop_of_length_le (by omega)]; rfl
   go_wp2_with fail
   go_ret
   exact ⟨ret_bool HF.out.symm, HB.out⟩
set_option maxRecDepth 100000 in
set_option maxHeartbeats 1000000 in
theorem rl_parts (l : List Tm) (least most : Int) (R : Tm → Bool) (q : Value) (S : Nat → Prop) (w : World) (a : Value) (hS : ∀ k, S k → k < w.heap.size) (ha : RepMs S w l a)
  (tells : ∀ (wr : World), Below w.heap.size w wr → ∀ x ∈ l, ∀ (fa : Option Addr) (fc : Nat) (ga : Option Addr) (gc : Nat), RepM S wr x (.int .i64 x.kind) (.string x.name) (.int .i64 x.val.kind) (.int .i64 x.val.num) (.string x.val.text) (.slice fa x.val.list.length fc) (.slice ga x.args.length gc) → Calls Tryz.prog 127 #[.agg #[.int .i64 x.kind, .string x.name, .int .i64 x.val.kind, .int .i64 x.val.num, .string x.val.text, .slice fa x.val.list.length fc, .slice ga x.args.length gc], q] wr fun e w' => e = .returned (.bool (R x)) ∧ Below wr.heap.size wr w') :
  Calls Tryz.prog 91 #[a, .int .i64 least, .int .i64 most, .func (.func 127) #[] #[q]] w fun e w' => e = .returned (.bool (listB least most R l)) ∧ Below w.heap.size w w' := by
 have HA := Lib.hid ha; have HT := Lib.hid tells
 obtain ⟨aa, cap, rfl⟩ := SlG.form ha
 have hlen : l.length * 104 ≤ 140737488355328 := SlG.bytes ha
 clear ha tells
 by_cases h1 : (l.length : Int) < least
 ·have HF := Lib.hid (listB_few (most := most) (R := R) h1)
  have h1' : decide ((l.length : Int) < least) = true := by simpa using h1
  go_enter Tryz.func91, Tryz.ntmps91
  go_wp2_with fail
  go_ret
  exact ⟨ret_bool HF.out.symm, Below.refl _ _⟩
 have h1' : decide ((l.length : Int) < least) = false := by simpa using h1
 by_cases h2 : most < (l.length : Int)
 ·have HF := Lib.hid (listB_many (least := least) (R := R) h2)
  have h2' : decide (most < (l.length : Int)) = true := by simpa using h2
  go_enter Tryz.func91, Tryz.ntmps91
  go_wp2_with fail
  go_ret
  exact ⟨ret_bool HF.out.symm, Below.refl _ _⟩
 have h2' : decide (most < (l.length : Int)) = false := by simpa using h2
 have HL := Lib.hid (listB_some (R := R) (show least ≤ (l.length : Int) by omega) (show (l.length : Int) ≤ most by omega))
 clear h1 h2
 go_enter Tryz.func91, Tryz.ntmps91
 go_wp2_with fail
 go_loopw [23] (fun i wr => ∃ k : Nat, k ≤ l.length ∧ i = .int .i64 k ∧ Hid (l.all R = (l.drop k).all R) ∧ Below w.heap.size w wr) (fun i _ => l.length - (intOf i).toNat)
 case atStart => exact ⟨0, Nat.zero_le _, rfl, rfl, Below.refl _ _⟩
 case round =>
  obtain ⟨k, hk, rfl, hrec, hbel⟩ := hrel
  have HB := Lib.hid hbel
  clear h1' h2'
  by_cases hl : k < l.length
  ·have hA := RepMs.on (fun _ h => h) (fun j hj => hbel.block j (hS j hj)) HA.out
   obtain ⟨-, -, b, o, fa, fc, ga, gc, rfl, -, g0, g1, g2, g3, g4, g5, g6, g⟩ := RepMs.at hA k hl
   have G := Lib.hid g
   have HM := Lib.hid (show l[k] ∈ l from List.getElem_mem hl)
   have HD := Lib.hid (List.drop_eq_getElem_cons hl)
   clear hA g
   generalize l[k] = z at *
   have hba := below_alloc wr (.cells #[.int .i64 z.kind, .string z.name, .int .i64 z.val.kind, .int .i64 z.val.num, .string z.val.text, .slice fa z.val.list.length fc, .slice ga z.args.length gc] 46)
   have HZ := Lib.hid (RepM.on (fun _ h => h) (fun j hj => hba.block j (Nat.lt_of_lt_of_le (hS j hj) hbel.size)) z G.out)
   have HBA := Lib.hid (Below.step hbel hba)
   clear hbel hba
   have hen : ∀ args w, Sem.run Tryz.prog (callFunc 127 args) w = .ok (.enter 127 args) w := fun args w => by kernel_rfl
   go_wp2_with fail
   refine (HT.out _ HBA.out z HM.out fa fc ga gc HZ.out).mono ?_
   rintro e w3 ⟨rfl, hb3⟩
   have HB3 := Lib.hid (Below.step HBA.out hb3)
   clear hb3
   cases hc : R z with
   | true =>
    have HF : Hid (l.all R = (l.drop (k + 1)).all R) := by show _ = _; rw [hrec.out, HD.out, List.all_cons, hc, Bool.true_and]
    clear hc
    go_wp2_with fail
    go_roundw
    case rel => exact ⟨k + 1, by omega, by go_num, HF, HB3.out⟩
    case measure => simp [intOf]; omega
   | false =>
    have HF : Hid (listB least most R l = false) := by show _ = _; rw [HL.out, hrec.out, HD.out, List.all_cons, hc, Bool.false_and]
    clear hc
    go_wp2_with fail
    go_ret
    exact ⟨ret_bool HF.out.symm, HB3.out⟩
  ·have HF : Hid (listB least most R l = true) := by show _ = _; rw [HL.out, hrec.out, List.drop_of_length_le (by omega)]; rfl
   go_wp2_with fail
   go_ret
   exact ⟨ret_bool HF.out.symm, HB.out⟩
set_option maxRecDepth 100000 in
set_option maxHeartbeats 1000000 in
theorem rl_values (l : List V) (least most : Int) (R : V → Bool) (S : Nat → Prop) (w : World) (a : Value) (hS : ∀ k, S k → k < w.heap.size) (ha : RepLG S w l a)
  (tells : ∀ (wr : World), Below w.heap.size w wr → ∀ x ∈ l, ∀ (fa : Option Addr) (fc : Nat), RepG S wr x (.int .i64 x.kind) (.int .i64 x.num) (.string x.text) (.slice fa x.list.length fc) → Calls Tryz.prog 68 #[.agg #[.int .i64 x.kind, .int .i64 x.num, .string x.text, .slice fa x.list.length fc]] wr fun e w' => e = .returned (.bool (R x)) ∧ Below wr.heap.size wr w') :
  Calls Tryz.prog 67 #[a, .int .i64 least, .int .i64 most, .func (.func 68) #[] #[]] w fun e w' => e = .returned (.bool (listB least most R l)) ∧ Below w.heap.size w w' := by
 have HA := Lib.hid ha; have HT := Lib.hid tells
 obtain ⟨aa, -, -, cap, rfl, -⟩ := id ha
 have hlen : l.length * 56 ≤ 140737488355328 := by obtain ⟨_, _, _, _, _, _, h, _⟩ := ha; exact h
 clear ha tells
 by_cases h1 : (l.length : Int) < least
 ·have HF := Lib.hid (listB_few (most := most) (R := R) h1)
  have h1' : decide ((l.length : Int) < least) = true := by simpa using h1
  go_enter Tryz.func67, Tryz.ntmps67
  go_wp2_with fail
  go_ret
  exact ⟨ret_bool HF.out.symm, Below.refl _ _⟩
 have h1' : decide ((l.length : Int) < least) = false := by simpa using h1
 by_cases h2 : most < (l.length : Int)
 ·have HF := Lib.hid (listB_many (least := least) (R := R) h2)
  have h2' : decide (most < (l.length : Int)) = true := by simpa using h2
  go_enter Tryz.func67, Tryz.ntmps67
  go_wp2_with fail
  go_ret
  exact ⟨ret_bool HF.out.symm, Below.refl _ _⟩
 have h2' : decide (most < (l.length : Int)) = false := by simpa using h2
 have HL := Lib.hid (listB_some (R := R) (show least ≤ (l.length : Int) by omega) (show (l.length : Int) ≤ most by omega))
 clear h1 h2
 go_enter Tryz.func67, Tryz.ntmps67
 go_wp2_with fail
 go_loopw [23] (fun i wr => ∃ k : Nat, k ≤ l.length ∧ i = .int .i64 k ∧ Hid (l.all R = (l.drop k).all R) ∧ Below w.heap.size w wr) (fun i _ => l.length - (intOf i).toNat)
 case atStart => exact ⟨0, Nat.zero_le _, rfl, rfl, Below.refl _ _⟩
 case round =>
  obtain ⟨k, hk, rfl, hrec, hbel⟩ := hrel
  have HB := Lib.hid hbel
  clear h1' h2'
  by_cases hl : k < l.length
  ·have hA := RepLG.on (fun _ h => h) (fun j hj => hbel.block j (hS j hj)) HA.out
   obtain ⟨-, -, b, o, fa, fc, rfl, -, g0, g1, g2, g3, g⟩ := RepLG.at hA k hl
   have G := Lib.hid g
   have HM := Lib.hid (show l[k] ∈ l from List.getElem_mem hl)
   have HD := Lib.hid (List.drop_eq_getElem_cons hl)
   clear hA g
   generalize l[k] = z at *
   have hba := below_alloc wr (.cells #[.int .i64 z.kind, .int .i64 z.num, .string z.text, .slice fa z.list.length fc] 44)
   have HZ := Lib.hid (RepG.on (fun _ h => h) (fun j hj => hba.block j (Nat.lt_of_lt_of_le (hS j hj) hbel.size)) z G.out)
   have HBA := Lib.hid (Below.step hbel hba)
   clear hbel hba
   have hen : ∀ args w, Sem.run Tryz.prog (callFunc 68 args) w = .ok (.enter 68 args) w := fun args w => by kernel_rfl
   go_wp2_with fail
   refine (HT.out _ HBA.out z HM.out fa fc HZ.out).mono ?_
   rintro e w3 ⟨rfl, hb3⟩
   have HB3 := Lib.hid (Below.step HBA.out hb3)
   clear hb3
   cases hc : R z with
   | true =>
    have HF : Hid (l.all R = (l.drop (k + 1)).all R) := by show _ = _; rw [hrec.out, HD.out, List.all_cons, hc, Bool.true_and]
    clear hc
    go_wp2_with fail
    go_roundw
    case rel => exact ⟨k + 1, by omega, by go_num, HF, HB3.out⟩
    case measure => simp [intOf]; omega
   | false =>
    have HF : Hid (listB least most R l = false) := by show _ = _; rw [HL.out, hrec.out, HD.out, List.all_cons, hc, Bool.false_and]
    clear hc
    go_wp2_with fail
    go_ret
    exact ⟨ret_bool HF.out.symm, HB3.out⟩
  ·have HF : Hid (listB least most R l = true) := by show _ = _; rw [HL.out, hrec.out, List.drop_of_length_le (by omega)]; rfl
   go_wp2_with fail
   go_ret
   exact ⟨ret_bool HF.out.symm, HB.out⟩
set_option maxRecDepth 100000 in
set_option maxHeartbeats 1000000 in
theorem rl_literals (l : List Li) (least most : Int) (R : Li → Bool) (S : Nat → Prop) (w : World) (a : Value) (hS : ∀ k, S k → k < w.heap.size) (ha : RepLis S w l a)
  (tells : ∀ (wr : World), Below w.heap.size w wr → ∀ x ∈ l, ∀ (ga : Option Addr) (gc : Nat), RepLi S wr x (.int .i64 x.kind) (.string x.name) (.slice ga x.args.length gc) → Calls Tryz.prog 49 #[.agg #[.int .i64 x.kind, .string x.name, .slice ga x.args.length gc]] wr fun e w' => e = .returned (.bool (R x)) ∧ Below wr.heap.size wr w') :
  Calls Tryz.prog 71 #[a, .int .i64 least, .int .i64 most, .func (.func 49) #[] #[]] w fun e w' => e = .returned (.bool (listB least most R l)) ∧ Below w.heap.size w w' := by
 have HA := Lib.hid ha; have HT := Lib.hid tells
 obtain ⟨aa, cap, rfl⟩ := SlG.form ha
 have hlen : l.length * 48 ≤ 140737488355328 := SlG.bytes ha
 clear ha tells
 by_cases h1 : (l.length : Int) < least
 ·have HF := Lib.hid (listB_few (most := most) (R := R) h1)
  have h1' : decide ((l.length : Int) < least) = true := by simpa using h1
  go_enter Tryz.func71, Tryz.ntmps71
  go_wp2_with fail
  go_ret
  exact ⟨ret_bool HF.out.symm, Below.refl _ _⟩
 have h1' : decide ((l.length : Int) < least) = false := by simpa using h1
 by_cases h2 : most < (l.length : Int)
 ·have HF := Lib.hid (listB_many (least := least) (R := R) h2)
  have h2' : decide (most < (l.length : Int)) = true := by simpa using h2
  go_enter Tryz.func71, Tryz.ntmps71
  go_wp2_with fail
  go_ret
  exact ⟨ret_bool HF.out.symm, Below.refl _ _⟩
 have h2' : decide (most < (l.length : Int)) = false := by simpa using h2
 have HL := Lib.hid (listB_some (R := R) (show least ≤ (l.length : Int) by omega) (show (l.length : Int) ≤ most by omega))
 clear h1 h2
 go_enter Tryz.func71, Tryz.ntmps71
 go_wp2_with fail
 go_loopw [23] (fun i wr => ∃ k : Nat, k ≤ l.length ∧ i = .int .i64 k ∧ Hid (l.all R = (l.drop k).all R) ∧ Below w.heap.size w wr) (fun i _ => l.length - (intOf i).toNat)
 case atStart => exact ⟨0, Nat.zero_le _, rfl, rfl, Below.refl _ _⟩
 case round =>
  obtain ⟨k, hk, rfl, hrec, hbel⟩ := hrel
  have HB := Lib.hid hbel
  clear h1' h2'
  by_cases hl : k < l.length
  ·have hA := RepLis.on (fun _ h => h) (fun j hj => hbel.block j (hS j hj)) HA.out
   obtain ⟨-, -, b, o, ga, gc, rfl, -, g0, g1, g2, g⟩ := RepLis.at hA k hl
   have G := Lib.hid g
   have HM := Lib.hid (show l[k] ∈ l from List.getElem_mem hl)
   have HD := Lib.hid (List.drop_eq_getElem_cons hl)
   clear hA g
   generalize l[k] = z at *
   have hba := below_alloc wr (.cells #[.int .i64 z.kind, .string z.name, .slice ga z.args.length gc] 41)
   have HZ := Lib.hid (RepLi.on (fun _ h => h) (fun j hj => hba.block j (Nat.lt_of_lt_of_le (hS j hj) hbel.size)) G.out)
   have HBA := Lib.hid (Below.step hbel hba)
   clear hbel hba
   have hen : ∀ args w, Sem.run Tryz.prog (callFunc 49 args) w = .ok (.enter 49 args) w := fun args w => by kernel_rfl
   go_wp2_with fail
   refine (HT.out _ HBA.out z HM.out ga gc HZ.out).mono ?_
   rintro e w3 ⟨rfl, hb3⟩
   have HB3 := Lib.hid (Below.step HBA.out hb3)
   clear hb3
   cases hc : R z with
   | true =>
    have HF : Hid (l.all R = (l.drop (k + 1)).all R) := by show _ = _; rw [hrec.out, HD.out, List.all_cons, hc, Bool.true_and]
    clear hc
    go_wp2_with fail
    go_roundw
    case rel => exact ⟨k + 1, by omega, by go_num, HF, HB3.out⟩
    case measure => simp [intOf]; omega
   | false =>
    have HF : Hid (listB least most R l = false) := by show _ = _; rw [HL.out, hrec.out, HD.out, List.all_cons, hc, Bool.false_and]
    clear hc
    go_wp2_with fail
    go_ret
    exact ⟨ret_bool HF.out.symm, HB3.out⟩
  ·have HF : Hid (listB least most R l = true) := by show _ = _; rw [HL.out, hrec.out, List.drop_of_length_le (by omega)]; rfl
   go_wp2_with fail
   go_ret
   exact ⟨ret_bool HF.out.symm, HB.out⟩
set_option maxRecDepth 100000 in
set_option maxHeartbeats 1000000 in
theorem rl_decls (l : List De) (least most : Int) (R : De → Bool) (S : Nat → Prop) (w : World) (a : Value) (hS : ∀ k, S k → k < w.heap.size) (ha : RepDes S w l a)
  (tells : ∀ (wr : World), Below w.heap.size w wr → ∀ x ∈ l, RepDe S wr x (.string x.name) (.int .i64 x.arity) → Calls Tryz.prog 30 #[.agg #[.string x.name, .int .i64 x.arity]] wr fun e w' => e = .returned (.bool (R x)) ∧ Below wr.heap.size wr w') :
  Calls Tryz.prog 29 #[a, .int .i64 least, .int .i64 most, .func (.func 30) #[] #[]] w fun e w' => e = .returned (.bool (listB least most R l)) ∧ Below w.heap.size w w' := by
 have HA := Lib.hid ha; have HT := Lib.hid tells
 obtain ⟨aa, cap, rfl⟩ := SlG.form ha
 have hlen : l.length * 24 ≤ 140737488355328 := SlG.bytes ha
 clear ha tells
 by_cases h1 : (l.length : Int) < least
 ·have HF := Lib.hid (listB_few (most := most) (R := R) h1)
  have h1' : decide ((l.length : Int) < least) = true := by simpa using h1
  go_enter Tryz.func29, Tryz.ntmps29
  go_wp2_with fail
  go_ret
  exact ⟨ret_bool HF.out.symm, Below.refl _ _⟩
 have h1' : decide ((l.length : Int) < least) = false := by simpa using h1
 by_cases h2 : most < (l.length : Int)
 ·have HF := Lib.hid (listB_many (least := least) (R := R) h2)
  have h2' : decide (most < (l.length : Int)) = true := by simpa using h2
  go_enter Tryz.func29, Tryz.ntmps29
  go_wp2_with fail
  go_ret
  exact ⟨ret_bool HF.out.symm, Below.refl _ _⟩
 have h2' : decide (most < (l.length : Int)) = false := by simpa using h2
 have HL := Lib.hid (listB_some (R := R) (show least ≤ (l.length : Int) by omega) (show (l.length : Int) ≤ most by omega))
 clear h1 h2
 go_enter Tryz.func29, Tryz.ntmps29
 go_wp2_with fail
 go_loopw [23] (fun i wr => ∃ k : Nat, k ≤ l.length ∧ i = .int .i64 k ∧ Hid (l.all R = (l.drop k).all R) ∧ Below w.heap.size w wr) (fun i _ => l.length - (intOf i).toNat)
 case atStart => exact ⟨0, Nat.zero_le _, rfl, rfl, Below.refl _ _⟩
 case round =>
  obtain ⟨k, hk, rfl, hrec, hbel⟩ := hrel
  have HB := Lib.hid hbel
  clear h1' h2'
  by_cases hl : k < l.length
  ·have hA := RepDes.on (fun _ h => h) (fun j hj => hbel.block j (hS j hj)) HA.out
   obtain ⟨-, -, b, o, rfl, -, g0, g1, g⟩ := RepDes.at hA k hl
   have G := Lib.hid g
   have HM := Lib.hid (show l[k] ∈ l from List.getElem_mem hl)
   have HD := Lib.hid (List.drop_eq_getElem_cons hl)
   clear hA g
   generalize l[k] = z at *
   have hba := below_alloc wr (.cells #[.string z.name, .int .i64 z.arity] 57)
   have HZ := Lib.hid (G.out)
   have HBA := Lib.hid (Below.step hbel hba)
   clear hbel hba
   have hen : ∀ args w, Sem.run Tryz.prog (callFunc 30 args) w = .ok (.enter 30 args) w := fun args w => by kernel_rfl
   go_wp2_with fail
   refine (HT.out _ HBA.out z HM.out  HZ.out).mono ?_
   rintro e w3 ⟨rfl, hb3⟩
   have HB3 := Lib.hid (Below.step HBA.out hb3)
   clear hb3
   cases hc : R z with
   | true =>
    have HF : Hid (l.all R = (l.drop (k + 1)).all R) := by show _ = _; rw [hrec.out, HD.out, List.all_cons, hc, Bool.true_and]
    clear hc
    go_wp2_with fail
    go_roundw
    case rel => exact ⟨k + 1, by omega, by go_num, HF, HB3.out⟩
    case measure => simp [intOf]; omega
   | false =>
    have HF : Hid (listB least most R l = false) := by show _ = _; rw [HL.out, hrec.out, HD.out, List.all_cons, hc, Bool.false_and]
    clear hc
    go_wp2_with fail
    go_ret
    exact ⟨ret_bool HF.out.symm, HB3.out⟩
  ·have HF : Hid (listB least most R l = true) := by show _ = _; rw [HL.out, hrec.out, List.drop_of_length_le (by omega)]; rfl
   go_wp2_with fail
   go_ret
   exact ⟨ret_bool HF.out.symm, HB.out⟩
set_option maxRecDepth 100000 in
set_option maxHeartbeats 1000000 in
theorem rl_facts (l : List Fa) (least most : Int) (R : Fa → Bool) (S : Nat → Prop) (w : World) (a : Value) (hS : ∀ k, S k → k < w.heap.size) (ha : RepFas S w l a)
  (tells : ∀ (wr : World), Below w.heap.size w wr → ∀ x ∈ l, ∀ (ga : Option Addr) (gc : Nat), RepFa S wr x (.string x.name) (.slice ga x.args.length gc) → Calls Tryz.prog 32 #[.agg #[.string x.name, .slice ga x.args.length gc]] wr fun e w' => e = .returned (.bool (R x)) ∧ Below wr.heap.size wr w') :
  Calls Tryz.prog 31 #[a, .int .i64 least, .int .i64 most, .func (.func 32) #[] #[]] w fun e w' => e = .returned (.bool (listB least most R l)) ∧ Below w.heap.size w w' := by
 have HA := Lib.hid ha; have HT := Lib.hid tells
 obtain ⟨aa, cap, rfl⟩ := SlG.form ha
 have hlen : l.length * 40 ≤ 140737488355328 := SlG.bytes ha
 clear ha tells
 by_cases h1 : (l.length : Int) < least
 ·have HF := Lib.hid (listB_few (most := most) (R := R) h1)
  have h1' : decide ((l.length : Int) < least) = true := by simpa using h1
  go_enter Tryz.func31, Tryz.ntmps31
  go_wp2_with fail
  go_ret
  exact ⟨ret_bool HF.out.symm, Below.refl _ _⟩
 have h1' : decide ((l.length : Int) < least) = false := by simpa using h1
 by_cases h2 : most < (l.length : Int)
 ·have HF := Lib.hid (listB_many (least := least) (R := R) h2)
  have h2' : decide (most < (l.length : Int)) = true := by simpa using h2
  go_enter Tryz.func31, Tryz.ntmps31
  go_wp2_with fail
  go_ret
  exact ⟨ret_bool HF.out.symm, Below.refl _ _⟩
 have h2' : decide (most < (l.length : Int)) = false := by simpa using h2
 have HL := Lib.hid (listB_some (R := R) (show least ≤ (l.length : Int) by omega) (show (l.length : Int) ≤ most by omega))
 clear h1 h2
 go_enter Tryz.func31, Tryz.ntmps31
 go_wp2_with fail
 go_loopw [23] (fun i wr => ∃ k : Nat, k ≤ l.length ∧ i = .int .i64 k ∧ Hid (l.all R = (l.drop k).all R) ∧ Below w.heap.size w wr) (fun i _ => l.length - (intOf i).toNat)
 case atStart => exact ⟨0, Nat.zero_le _, rfl, rfl, Below.refl _ _⟩
 case round =>
  obtain ⟨k, hk, rfl, hrec, hbel⟩ := hrel
  have HB := Lib.hid hbel
  clear h1' h2'
  by_cases hl : k < l.length
  ·have hA := RepFas.on (fun _ h => h) (fun j hj => hbel.block j (hS j hj)) HA.out
   obtain ⟨-, -, b, o, ga, gc, rfl, -, g0, g1, g⟩ := RepFas.at hA k hl
   have G := Lib.hid g
   have HM := Lib.hid (show l[k] ∈ l from List.getElem_mem hl)
   have HD := Lib.hid (List.drop_eq_getElem_cons hl)
   clear hA g
   generalize l[k] = z at *
   have hba := below_alloc wr (.cells #[.string z.name, .slice ga z.args.length gc] 33)
   have HZ := Lib.hid (RepFa.on (fun _ h => h) (fun j hj => hba.block j (Nat.lt_of_lt_of_le (hS j hj) hbel.size)) G.out)
   have HBA := Lib.hid (Below.step hbel hba)
   clear hbel hba
   have hen : ∀ args w, Sem.run Tryz.prog (callFunc 32 args) w = .ok (.enter 32 args) w := fun args w => by kernel_rfl
   go_wp2_with fail
   refine (HT.out _ HBA.out z HM.out ga gc HZ.out).mono ?_
   rintro e w3 ⟨rfl, hb3⟩
   have HB3 := Lib.hid (Below.step HBA.out hb3)
   clear hb3
   cases hc : R z with
   | true =>
    have HF : Hid (l.all R = (l.drop (k + 1)).all R) := by show _ = _; rw [hrec.out, HD.out, List.all_cons, hc, Bool.true_and]
    clear hc
    go_wp2_with fail
    go_roundw
    case rel => exact ⟨k + 1, by omega, by go_num, HF, HB3.out⟩
    case measure => simp [intOf]; omega
   | false =>
    have HF : Hid (listB least most R l = false) := by show _ = _; rw [HL.out, hrec.out, HD.out, List.all_cons, hc, Bool.false_and]
    clear hc
    go_wp2_with fail
    go_ret
    exact ⟨ret_bool HF.out.symm, HB3.out⟩
  ·have HF : Hid (listB least most R l = true) := by show _ = _; rw [HL.out, hrec.out, List.drop_of_length_le (by omega)]; rfl
   go_wp2_with fail
   go_ret
   exact ⟨ret_bool HF.out.symm, HB.out⟩
set_option maxRecDepth 100000 in
set_option maxHeartbeats 1000000 in
theorem rl_rules (l : List Ru) (least most : Int) (R : Ru → Bool) (S : Nat → Prop) (w : World) (a : Value) (hS : ∀ k, S k → k < w.heap.size) (ha : RepRus S w l a)
  (tells : ∀ (wr : World), Below w.heap.size w wr → ∀ x ∈ l, ∀ (fa : Option Addr) (fc : Nat) (ga : Option Addr) (gc : Nat), RepRu S wr x (.string x.label) (.string x.head) (.slice fa x.args.length fc) (.string x.agg) (.int .i64 x.at') (.slice ga x.body.length gc) → Calls Tryz.prog 34 #[.agg #[.string x.label, .string x.head, .slice fa x.args.length fc, .string x.agg, .int .i64 x.at', .slice ga x.body.length gc]] wr fun e w' => e = .returned (.bool (R x)) ∧ Below wr.heap.size wr w') :
  Calls Tryz.prog 33 #[a, .int .i64 least, .int .i64 most, .func (.func 34) #[] #[]] w fun e w' => e = .returned (.bool (listB least most R l)) ∧ Below w.heap.size w w' := by
 have HA := Lib.hid ha; have HT := Lib.hid tells
 obtain ⟨aa, cap, rfl⟩ := SlG.form ha
 have hlen : l.length * 104 ≤ 140737488355328 := SlG.bytes ha
 clear ha tells
 by_cases h1 : (l.length : Int) < least
 ·have HF := Lib.hid (listB_few (most := most) (R := R) h1)
  have h1' : decide ((l.length : Int) < least) = true := by simpa using h1
  go_enter Tryz.func33, Tryz.ntmps33
  go_wp2_with fail
  go_ret
  exact ⟨ret_bool HF.out.symm, Below.refl _ _⟩
 have h1' : decide ((l.length : Int) < least) = false := by simpa using h1
 by_cases h2 : most < (l.length : Int)
 ·have HF := Lib.hid (listB_many (least := least) (R := R) h2)
  have h2' : decide (most < (l.length : Int)) = true := by simpa using h2
  go_enter Tryz.func33, Tryz.ntmps33
  go_wp2_with fail
  go_ret
  exact ⟨ret_bool HF.out.symm, Below.refl _ _⟩
 have h2' : decide (most < (l.length : Int)) = false := by simpa using h2
 have HL := Lib.hid (listB_some (R := R) (show least ≤ (l.length : Int) by omega) (show (l.length : Int) ≤ most by omega))
 clear h1 h2
 go_enter Tryz.func33, Tryz.ntmps33
 go_wp2_with fail
 go_loopw [23] (fun i wr => ∃ k : Nat, k ≤ l.length ∧ i = .int .i64 k ∧ Hid (l.all R = (l.drop k).all R) ∧ Below w.heap.size w wr) (fun i _ => l.length - (intOf i).toNat)
 case atStart => exact ⟨0, Nat.zero_le _, rfl, rfl, Below.refl _ _⟩
 case round =>
  obtain ⟨k, hk, rfl, hrec, hbel⟩ := hrel
  have HB := Lib.hid hbel
  clear h1' h2'
  by_cases hl : k < l.length
  ·have hA := RepRus.on (fun _ h => h) (fun j hj => hbel.block j (hS j hj)) HA.out
   obtain ⟨-, -, b, o, fa, fc, ga, gc, rfl, -, g0, g1, g2, g3, g4, g5, g⟩ := RepRus.at hA k hl
   have G := Lib.hid g
   have HM := Lib.hid (show l[k] ∈ l from List.getElem_mem hl)
   have HD := Lib.hid (List.drop_eq_getElem_cons hl)
   clear hA g
   generalize l[k] = z at *
   have hba := below_alloc wr (.cells #[.string z.label, .string z.head, .slice fa z.args.length fc, .string z.agg, .int .i64 z.at', .slice ga z.body.length gc] 37)
   have HZ := Lib.hid (RepRu.on (fun _ h => h) (fun j hj => hba.block j (Nat.lt_of_lt_of_le (hS j hj) hbel.size)) G.out)
   have HBA := Lib.hid (Below.step hbel hba)
   clear hbel hba
   have hen : ∀ args w, Sem.run Tryz.prog (callFunc 34 args) w = .ok (.enter 34 args) w := fun args w => by kernel_rfl
   go_wp2_with fail
   refine (HT.out _ HBA.out z HM.out fa fc ga gc HZ.out).mono ?_
   rintro e w3 ⟨rfl, hb3⟩
   have HB3 := Lib.hid (Below.step HBA.out hb3)
   clear hb3
   cases hc : R z with
   | true =>
    have HF : Hid (l.all R = (l.drop (k + 1)).all R) := by show _ = _; rw [hrec.out, HD.out, List.all_cons, hc, Bool.true_and]
    clear hc
    go_wp2_with fail
    go_roundw
    case rel => exact ⟨k + 1, by omega, by go_num, HF, HB3.out⟩
    case measure => simp [intOf]; omega
   | false =>
    have HF : Hid (listB least most R l = false) := by show _ = _; rw [HL.out, hrec.out, HD.out, List.all_cons, hc, Bool.false_and]
    clear hc
    go_wp2_with fail
    go_ret
    exact ⟨ret_bool HF.out.symm, HB3.out⟩
  ·have HF : Hid (listB least most R l = true) := by show _ = _; rw [HL.out, hrec.out, List.drop_of_length_le (by omega)]; rfl
   go_wp2_with fail
   go_ret
   exact ⟨ret_bool HF.out.symm, HB.out⟩
end Go.Proofs.YtgjemmdhamkngaaGreatDoor
