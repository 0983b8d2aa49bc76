/-
  SixRight, PrLists, ScArity
-/
import Derived.Test.YtjmnnjikmmglpaaGreatKF11
import Derived.Test.YtjmnnjikmmglpaaGreatKF13
import Derived.Test.YtjmnnjikmmglpaaGreatKF02
import Derived.Test.YtjmnnjikmmglpaaGreatKF04
import Derived.Test.YtjmnnjikmmglpaaGreatKF03
namespace Go.Proofs.YtjmnnjikmmglpaaGreat
open Go.RowKit
end Go.Proofs.YtjmnnjikmmglpaaGreat
namespace Go.Proofs.YtjmnnjikmmglpaaGreat
open Go.RowKit
set_option maxRecDepth 100000 in
set_option maxHeartbeats 1000000 in
theorem rl_terms (l : List Tm) (least most : Int) (R : Tm → Bool) (S : Nat → Prop) (w : World) (a : Value) (hS : ∀ k, S k → k < w.heap.size) (ha : RepMs S w l a)
  (tells : ∀ (wr : World), Below w.heap.size w wr → ∀ x ∈ l, ∀ (fa : Option Addr) (fc : Nat) (ga : Option Addr) (gc : Nat), RepM S wr x (.int .i64 x.kind) (.string x.name) (.int .i64 x.val.kind) (.int .i64 x.val.num) (.string x.val.text) (.slice fa x.val.list.length fc) (.slice ga x.args.length gc) → Calls Tryz.prog 130 #[.agg #[.int .i64 x.kind, .string x.name, .int .i64 x.val.kind, .int .i64 x.val.num, .string x.val.text, .slice fa x.val.list.length fc, .slice ga x.args.length gc]] wr fun e w' => e = .returned (.bool (R x)) ∧ Below wr.heap.size wr w') :
  Calls Tryz.prog 129 #[a, .int .i64 least, .int .i64 most, .func (.func 130) #[] #[]] w fun e w' => e = .returned (.bool (listB least most R l)) ∧ Below w.heap.size w w' := by
 have HA := Lib.hid ha; have HT := Lib.hid tells
 obtain ⟨aa, cap, rfl⟩ := SlG.form ha;have hlen : l.length * 104 ≤ 140737488355328 := SlG.bytes ha;clear ha tells
 by_cases h1 : (l.length : Int) < least
 ·have HF := Lib.hid (listB_few (most := most) (R := R) h1)
  have h1' : decide ((l.length : Int) < least) = true := by simpa using h1
  go_enter Tryz.func129, Tryz.ntmps129
  go_wp2_with fail
  go_ret
  exact ⟨ret_bool HF.out.symm, Below.refl _ _⟩
 have h1' : decide ((l.length : Int) < least) = false := by simpa using h1
 by_cases h2 : most < (l.length : Int)
 ·have HF := Lib.hid (listB_many (least := least) (R := R) h2)
  have h2' : decide (most < (l.length : Int)) = true := by simpa using h2
  go_enter Tryz.func129, Tryz.ntmps129
  go_wp2_with fail
  go_ret
  exact ⟨ret_bool HF.out.symm, Below.refl _ _⟩
 have h2' : decide (most < (l.length : Int)) = false := by simpa using h2
 have HL := Lib.hid (listB_some (R := R) (show least ≤ (l.length : Int) by omega) (show (l.length : Int) ≤ most by omega));clear h1 h2;go_enter Tryz.func129, Tryz.ntmps129
 go_wp2_with fail
 go_loopw [23] (fun i wr => ∃ k : Nat, k ≤ l.length ∧ i = .int .i64 k ∧ Hid (l.all R = (l.drop k).all R) ∧ Below w.heap.size w wr) (fun i _ => l.length - (intOf i).toNat)
 case atStart => exact ⟨0, Nat.zero_le _, rfl, rfl, Below.refl _ _⟩
 case round =>
  obtain ⟨k, hk, rfl, hrec, hbel⟩ := hrel;have HB := Lib.hid hbel;clear h1' h2'
  by_cases hl : k < l.length
  ·have hA := RepMs.on (fun _ h => h) (fun j hj => hbel.block j (hS j hj)) HA.out
   obtain ⟨-, -, b, o, fa, fc, ga, gc, rfl, -, g0, g1, g2, g3, g4, g5, g6, g⟩ := RepMs.at hA k hl;have G := Lib.hid g;have HM := Lib.hid (show l[k] ∈ l from List.getElem_mem hl);have HD := Lib.hid (List.drop_eq_getElem_cons hl);clear hA g;generalize l[k] = z at *;have hba := below_alloc wr (.cells #[.int .i64 z.kind, .string z.name, .int .i64 z.val.kind, .int .i64 z.val.num, .string z.val.text, .slice fa z.val.list.length fc, .slice ga z.args.length gc] 68);have HZ := Lib.hid (RepM.on (fun _ h => h) (fun j hj => hba.block j (Nat.lt_of_lt_of_le (hS j hj) hbel.size)) z G.out);have HBA := Lib.hid (Below.step hbel hba);clear hbel hba;have hen : ∀ args w, Sem.run Tryz.prog (callFunc 130 args) w = .ok (.enter 130 args) w := fun args w => by kernel_rfl
   go_wp2_with fail
   refine (HT.out _ HBA.out z HM.out fa fc ga gc HZ.out).mono ?_;rintro e w3 ⟨rfl, hb3⟩;have HB3 := Lib.hid (Below.step HBA.out hb3);clear hb3
   cases hc : R z with
   | true =>
    have HF : Hid (l.all R = (l.drop (k + 1)).all R) := by show _ = _; rw [hrec.out, HD.out, List.all_cons, hc, Bool.true_and]
    clear hc;go_wp2_with fail
    go_roundw
    case rel => exact ⟨k + 1, by omega, by go_num, HF, HB3.out⟩
    case measure => simp [intOf]; omega
   | false =>
    have HF : Hid (listB least most R l = false) := by show _ = _; rw [HL.out, hrec.out, HD.out, List.all_cons, hc, Bool.false_and]
    clear hc;go_wp2_with fail
    go_ret
    exact ⟨ret_bool HF.out.symm, HB3.out⟩
  ·have HF : Hid (listB least most R l = true) := by show _ = _; rw [HL.out, hrec.out, List.drop_of_length_le (by omega)]; rfl
   go_wp2_with fail
   go_ret
   exact ⟨ret_bool HF.out.symm, HB.out⟩
set_option maxRecDepth 100000 in
set_option maxHeartbeats 1000000 in
theorem rl_parts (l : List Tm) (least most : Int) (R : Tm → Bool) (q : Value) (S : Nat → Prop) (w : World) (a : Value) (hS : ∀ k, S k → k < w.heap.size) (ha : RepMs S w l a)
  (tells : ∀ (wr : World), Below w.heap.size w wr → ∀ x ∈ l, ∀ (fa : Option Addr) (fc : Nat) (ga : Option Addr) (gc : Nat), RepM S wr x (.int .i64 x.kind) (.string x.name) (.int .i64 x.val.kind) (.int .i64 x.val.num) (.string x.val.text) (.slice fa x.val.list.length fc) (.slice ga x.args.length gc) → Calls Tryz.prog 206 #[.agg #[.int .i64 x.kind, .string x.name, .int .i64 x.val.kind, .int .i64 x.val.num, .string x.val.text, .slice fa x.val.list.length fc, .slice ga x.args.length gc], q] wr fun e w' => e = .returned (.bool (R x)) ∧ Below wr.heap.size wr w') :
  Calls Tryz.prog 129 #[a, .int .i64 least, .int .i64 most, .func (.func 206) #[] #[q]] w fun e w' => e = .returned (.bool (listB least most R l)) ∧ Below w.heap.size w w' := by
 have HA := Lib.hid ha; have HT := Lib.hid tells
 obtain ⟨aa, cap, rfl⟩ := SlG.form ha;have hlen : l.length * 104 ≤ 140737488355328 := SlG.bytes ha;clear ha tells
 by_cases h1 : (l.length : Int) < least
 ·have HF := Lib.hid (listB_few (most := most) (R := R) h1)
  have h1' : decide ((l.length : Int) < least) = true := by simpa using h1
  go_enter Tryz.func129, Tryz.ntmps129
  go_wp2_with fail
  go_ret
  exact ⟨ret_bool HF.out.symm, Below.refl _ _⟩
 have h1' : decide ((l.length : Int) < least) = false := by simpa using h1
 by_cases h2 : most < (l.length : Int)
 ·have HF := Lib.hid (listB_many (least := least) (R := R) h2)
  have h2' : decide (most < (l.length : Int)) = true := by simpa using h2
  go_enter Tryz.func129, Tryz.ntmps129
  go_wp2_with fail
  go_ret
  exact ⟨ret_bool HF.out.symm, Below.refl _ _⟩
 have h2' : decide (most < (l.length : Int)) = false := by simpa using h2
 have HL := Lib.hid (listB_some (R := R) (show least ≤ (l.length : Int) by omega) (show (l.length : Int) ≤ most by omega));clear h1 h2;go_enter Tryz.func129, Tryz.ntmps129
 go_wp2_with fail
 go_loopw [23] (fun i wr => ∃ k : Nat, k ≤ l.length ∧ i = .int .i64 k ∧ Hid (l.all R = (l.drop k).all R) ∧ Below w.heap.size w wr) (fun i _ => l.length - (intOf i).toNat)
 case atStart => exact ⟨0, Nat.zero_le _, rfl, rfl, Below.refl _ _⟩
 case round =>
  obtain ⟨k, hk, rfl, hrec, hbel⟩ := hrel;have HB := Lib.hid hbel;clear h1' h2'
  by_cases hl : k < l.length
  ·have hA := RepMs.on (fun _ h => h) (fun j hj => hbel.block j (hS j hj)) HA.out
   obtain ⟨-, -, b, o, fa, fc, ga, gc, rfl, -, g0, g1, g2, g3, g4, g5, g6, g⟩ := RepMs.at hA k hl;have G := Lib.hid g;have HM := Lib.hid (show l[k] ∈ l from List.getElem_mem hl);have HD := Lib.hid (List.drop_eq_getElem_cons hl);clear hA g;generalize l[k] = z at *;have hba := below_alloc wr (.cells #[.int .i64 z.kind, .string z.name, .int .i64 z.val.kind, .int .i64 z.val.num, .string z.val.text, .slice fa z.val.list.length fc, .slice ga z.args.length gc] 68);have HZ := Lib.hid (RepM.on (fun _ h => h) (fun j hj => hba.block j (Nat.lt_of_lt_of_le (hS j hj) hbel.size)) z G.out);have HBA := Lib.hid (Below.step hbel hba);clear hbel hba;have hen : ∀ args w, Sem.run Tryz.prog (callFunc 206 args) w = .ok (.enter 206 args) w := fun args w => by kernel_rfl
   go_wp2_with fail
   refine (HT.out _ HBA.out z HM.out fa fc ga gc HZ.out).mono ?_;rintro e w3 ⟨rfl, hb3⟩;have HB3 := Lib.hid (Below.step HBA.out hb3);clear hb3
   cases hc : R z with
   | true =>
    have HF : Hid (l.all R = (l.drop (k + 1)).all R) := by show _ = _; rw [hrec.out, HD.out, List.all_cons, hc, Bool.true_and]
    clear hc;go_wp2_with fail
    go_roundw
    case rel => exact ⟨k + 1, by omega, by go_num, HF, HB3.out⟩
    case measure => simp [intOf]; omega
   | false =>
    have HF : Hid (listB least most R l = false) := by show _ = _; rw [HL.out, hrec.out, HD.out, List.all_cons, hc, Bool.false_and]
    clear hc;go_wp2_with fail
    go_ret
    exact ⟨ret_bool HF.out.symm, HB3.out⟩
  ·have HF : Hid (listB least most R l = true) := by show _ = _; rw [HL.out, hrec.out, List.drop_of_length_le (by omega)]; rfl
   go_wp2_with fail
   go_ret
   exact ⟨ret_bool HF.out.symm, HB.out⟩
set_option maxRecDepth 100000 in
set_option maxHeartbeats 1000000 in
theorem rl_values (l : List V) (least most : Int) (R : V → Bool) (S : Nat → Prop) (w : World) (a : Value) (hS : ∀ k, S k → k < w.heap.size) (ha : RepLG S w l a)
  (tells : ∀ (wr : World), Below w.heap.size w wr → ∀ x ∈ l, ∀ (fa : Option Addr) (fc : Nat), RepG S wr x (.int .i64 x.kind) (.int .i64 x.num) (.string x.text) (.slice fa x.list.length fc) → Calls Tryz.prog 100 #[.agg #[.int .i64 x.kind, .int .i64 x.num, .string x.text, .slice fa x.list.length fc]] wr fun e w' => e = .returned (.bool (R x)) ∧ Below wr.heap.size wr w') :
  Calls Tryz.prog 99 #[a, .int .i64 least, .int .i64 most, .func (.func 100) #[] #[]] w fun e w' => e = .returned (.bool (listB least most R l)) ∧ Below w.heap.size w w' := by
 have HA := Lib.hid ha; have HT := Lib.hid tells
 obtain ⟨aa, -, -, cap, rfl, -⟩ := id ha;have hlen : l.length * 56 ≤ 140737488355328 := by obtain ⟨_, _, _, _, _, _, h, _⟩ := ha; exact h
 clear ha tells
 by_cases h1 : (l.length : Int) < least
 ·have HF := Lib.hid (listB_few (most := most) (R := R) h1)
  have h1' : decide ((l.length : Int) < least) = true := by simpa using h1
  go_enter Tryz.func99, Tryz.ntmps99
  go_wp2_with fail
  go_ret
  exact ⟨ret_bool HF.out.symm, Below.refl _ _⟩
 have h1' : decide ((l.length : Int) < least) = false := by simpa using h1
 by_cases h2 : most < (l.length : Int)
 ·have HF := Lib.hid (listB_many (least := least) (R := R) h2)
  have h2' : decide (most < (l.length : Int)) = true := by simpa using h2
  go_enter Tryz.func99, Tryz.ntmps99
  go_wp2_with fail
  go_ret
  exact ⟨ret_bool HF.out.symm, Below.refl _ _⟩
 have h2' : decide (most < (l.length : Int)) = false := by simpa using h2
 have HL := Lib.hid (listB_some (R := R) (show least ≤ (l.length : Int) by omega) (show (l.length : Int) ≤ most by omega));clear h1 h2;go_enter Tryz.func99, Tryz.ntmps99
 go_wp2_with fail
 go_loopw [23] (fun i wr => ∃ k : Nat, k ≤ l.length ∧ i = .int .i64 k ∧ Hid (l.all R = (l.drop k).all R) ∧ Below w.heap.size w wr) (fun i _ => l.length - (intOf i).toNat)
 case atStart => exact ⟨0, Nat.zero_le _, rfl, rfl, Below.refl _ _⟩
 case round =>
  obtain ⟨k, hk, rfl, hrec, hbel⟩ := hrel;have HB := Lib.hid hbel;clear h1' h2'
  by_cases hl : k < l.length
  ·have hA := RepLG.on (fun _ h => h) (fun j hj => hbel.block j (hS j hj)) HA.out
   obtain ⟨-, -, b, o, fa, fc, rfl, -, g0, g1, g2, g3, g⟩ := RepLG.at hA k hl;have G := Lib.hid g;have HM := Lib.hid (show l[k] ∈ l from List.getElem_mem hl);have HD := Lib.hid (List.drop_eq_getElem_cons hl);clear hA g;generalize l[k] = z at *;have hba := below_alloc wr (.cells #[.int .i64 z.kind, .int .i64 z.num, .string z.text, .slice fa z.list.length fc] 66);have HZ := Lib.hid (RepG.on (fun _ h => h) (fun j hj => hba.block j (Nat.lt_of_lt_of_le (hS j hj) hbel.size)) z G.out);have HBA := Lib.hid (Below.step hbel hba);clear hbel hba;have hen : ∀ args w, Sem.run Tryz.prog (callFunc 100 args) w = .ok (.enter 100 args) w := fun args w => by kernel_rfl
   go_wp2_with fail
   refine (HT.out _ HBA.out z HM.out fa fc HZ.out).mono ?_;rintro e w3 ⟨rfl, hb3⟩;have HB3 := Lib.hid (Below.step HBA.out hb3);clear hb3
   cases hc : R z with
   | true =>
    have HF : Hid (l.all R = (l.drop (k + 1)).all R) := by show _ = _; rw [hrec.out, HD.out, List.all_cons, hc, Bool.true_and]
    clear hc;go_wp2_with fail
    go_roundw
    case rel => exact ⟨k + 1, by omega, by go_num, HF, HB3.out⟩
    case measure => simp [intOf]; omega
   | false =>
    have HF : Hid (listB least most R l = false) := by show _ = _; rw [HL.out, hrec.out, HD.out, List.all_cons, hc, Bool.false_and]
    clear hc;go_wp2_with fail
    go_ret
    exact ⟨ret_bool HF.out.symm, HB3.out⟩
  ·have HF : Hid (listB least most R l = true) := by show _ = _; rw [HL.out, hrec.out, List.drop_of_length_le (by omega)]; rfl
   go_wp2_with fail
   go_ret
   exact ⟨ret_bool HF.out.symm, HB.out⟩
set_option maxRecDepth 100000 in
set_option maxHeartbeats 1000000 in
theorem rl_literals (l : List Li) (least most : Int) (R : Li → Bool) (S : Nat → Prop) (w : World) (a : Value) (hS : ∀ k, S k → k < w.heap.size) (ha : RepLis S w l a)
  (tells : ∀ (wr : World), Below w.heap.size w wr → ∀ x ∈ l, ∀ (ga : Option Addr) (gc : Nat), RepLi S wr x (.int .i64 x.kind) (.string x.name) (.slice ga x.args.length gc) → Calls Tryz.prog 104 #[.agg #[.int .i64 x.kind, .string x.name, .slice ga x.args.length gc]] wr fun e w' => e = .returned (.bool (R x)) ∧ Below wr.heap.size wr w') :
  Calls Tryz.prog 103 #[a, .int .i64 least, .int .i64 most, .func (.func 104) #[] #[]] w fun e w' => e = .returned (.bool (listB least most R l)) ∧ Below w.heap.size w w' := by
 have HA := Lib.hid ha; have HT := Lib.hid tells
 obtain ⟨aa, cap, rfl⟩ := SlG.form ha;have hlen : l.length * 48 ≤ 140737488355328 := SlG.bytes ha;clear ha tells
 by_cases h1 : (l.length : Int) < least
 ·have HF := Lib.hid (listB_few (most := most) (R := R) h1)
  have h1' : decide ((l.length : Int) < least) = true := by simpa using h1
  go_enter Tryz.func103, Tryz.ntmps103
  go_wp2_with fail
  go_ret
  exact ⟨ret_bool HF.out.symm, Below.refl _ _⟩
 have h1' : decide ((l.length : Int) < least) = false := by simpa using h1
 by_cases h2 : most < (l.length : Int)
 ·have HF := Lib.hid (listB_many (least := least) (R := R) h2)
  have h2' : decide (most < (l.length : Int)) = true := by simpa using h2
  go_enter Tryz.func103, Tryz.ntmps103
  go_wp2_with fail
  go_ret
  exact ⟨ret_bool HF.out.symm, Below.refl _ _⟩
 have h2' : decide (most < (l.length : Int)) = false := by simpa using h2
 have HL := Lib.hid (listB_some (R := R) (show least ≤ (l.length : Int) by omega) (show (l.length : Int) ≤ most by omega));clear h1 h2;go_enter Tryz.func103, Tryz.ntmps103
 go_wp2_with fail
 go_loopw [23] (fun i wr => ∃ k : Nat, k ≤ l.length ∧ i = .int .i64 k ∧ Hid (l.all R = (l.drop k).all R) ∧ Below w.heap.size w wr) (fun i _ => l.length - (intOf i).toNat)
 case atStart => exact ⟨0, Nat.zero_le _, rfl, rfl, Below.refl _ _⟩
 case round =>
  obtain ⟨k, hk, rfl, hrec, hbel⟩ := hrel;have HB := Lib.hid hbel;clear h1' h2'
  by_cases hl : k < l.length
  ·have hA := RepLis.on (fun _ h => h) (fun j hj => hbel.block j (hS j hj)) HA.out
   obtain ⟨-, -, b, o, ga, gc, rfl, -, g0, g1, g2, g⟩ := RepLis.at hA k hl;have G := Lib.hid g;have HM := Lib.hid (show l[k] ∈ l from List.getElem_mem hl);have HD := Lib.hid (List.drop_eq_getElem_cons hl);clear hA g;generalize l[k] = z at *;have hba := below_alloc wr (.cells #[.int .i64 z.kind, .string z.name, .slice ga z.args.length gc] 60);have HZ := Lib.hid (RepLi.on (fun _ h => h) (fun j hj => hba.block j (Nat.lt_of_lt_of_le (hS j hj) hbel.size)) G.out);have HBA := Lib.hid (Below.step hbel hba);clear hbel hba;have hen : ∀ args w, Sem.run Tryz.prog (callFunc 104 args) w = .ok (.enter 104 args) w := fun args w => by kernel_rfl
   go_wp2_with fail
   refine (HT.out _ HBA.out z HM.out ga gc HZ.out).mono ?_;rintro e w3 ⟨rfl, hb3⟩;have HB3 := Lib.hid (Below.step HBA.out hb3);clear hb3
   cases hc : R z with
   | true =>
    have HF : Hid (l.all R = (l.drop (k + 1)).all R) := by show _ = _; rw [hrec.out, HD.out, List.all_cons, hc, Bool.true_and]
    clear hc;go_wp2_with fail
    go_roundw
    case rel => exact ⟨k + 1, by omega, by go_num, HF, HB3.out⟩
    case measure => simp [intOf]; omega
   | false =>
    have HF : Hid (listB least most R l = false) := by show _ = _; rw [HL.out, hrec.out, HD.out, List.all_cons, hc, Bool.false_and]
    clear hc;go_wp2_with fail
    go_ret
    exact ⟨ret_bool HF.out.symm, HB3.out⟩
  ·have HF : Hid (listB least most R l = true) := by show _ = _; rw [HL.out, hrec.out, List.drop_of_length_le (by omega)]; rfl
   go_wp2_with fail
   go_ret
   exact ⟨ret_bool HF.out.symm, HB.out⟩
set_option maxRecDepth 100000 in
set_option maxHeartbeats 1000000 in
theorem rl_decls (l : List De) (least most : Int) (R : De → Bool) (S : Nat → Prop) (w : World) (a : Value) (hS : ∀ k, S k → k < w.heap.size) (ha : RepDes S w l a)
  (tells : ∀ (wr : World), Below w.heap.size w wr → ∀ x ∈ l, RepDe S wr x (.string x.name) (.int .i64 x.arity) → Calls Tryz.prog 58 #[.agg #[.string x.name, .int .i64 x.arity]] wr fun e w' => e = .returned (.bool (R x)) ∧ Below wr.heap.size wr w') :
  Calls Tryz.prog 57 #[a, .int .i64 least, .int .i64 most, .func (.func 58) #[] #[]] w fun e w' => e = .returned (.bool (listB least most R l)) ∧ Below w.heap.size w w' := by
 have HA := Lib.hid ha; have HT := Lib.hid tells
 obtain ⟨aa, cap, rfl⟩ := SlG.form ha;have hlen : l.length * 24 ≤ 140737488355328 := SlG.bytes ha;clear ha tells
 by_cases h1 : (l.length : Int) < least
 ·have HF := Lib.hid (listB_few (most := most) (R := R) h1)
  have h1' : decide ((l.length : Int) < least) = true := by simpa using h1
  go_enter Tryz.func57, Tryz.ntmps57
  go_wp2_with fail
  go_ret
  exact ⟨ret_bool HF.out.symm, Below.refl _ _⟩
 have h1' : decide ((l.length : Int) < least) = false := by simpa using h1
 by_cases h2 : most < (l.length : Int)
 ·have HF := Lib.hid (listB_many (least := least) (R := R) h2)
  have h2' : decide (most < (l.length : Int)) = true := by simpa using h2
  go_enter Tryz.func57, Tryz.ntmps57
  go_wp2_with fail
  go_ret
  exact ⟨ret_bool HF.out.symm, Below.refl _ _⟩
 have h2' : decide (most < (l.length : Int)) = false := by simpa using h2
 have HL := Lib.hid (listB_some (R := R) (show least ≤ (l.length : Int) by omega) (show (l.length : Int) ≤ most by omega));clear h1 h2;go_enter Tryz.func57, Tryz.ntmps57
 go_wp2_with fail
 go_loopw [23] (fun i wr => ∃ k : Nat, k ≤ l.length ∧ i = .int .i64 k ∧ Hid (l.all R = (l.drop k).all R) ∧ Below w.heap.size w wr) (fun i _ => l.length - (intOf i).toNat)
 case atStart => exact ⟨0, Nat.zero_le _, rfl, rfl, Below.refl _ _⟩
 case round =>
  obtain ⟨k, hk, rfl, hrec, hbel⟩ := hrel;have HB := Lib.hid hbel;clear h1' h2'
  by_cases hl : k < l.length
  ·have hA := RepDes.on (fun _ h => h) (fun j hj => hbel.block j (hS j hj)) HA.out
   obtain ⟨-, -, b, o, rfl, -, g0, g1, g⟩ := RepDes.at hA k hl;have G := Lib.hid g;have HM := Lib.hid (show l[k] ∈ l from List.getElem_mem hl);have HD := Lib.hid (List.drop_eq_getElem_cons hl);clear hA g;generalize l[k] = z at *;have hba := below_alloc wr (.cells #[.string z.name, .int .i64 z.arity] 112);have HZ := Lib.hid (G.out);have HBA := Lib.hid (Below.step hbel hba);clear hbel hba;have hen : ∀ args w, Sem.run Tryz.prog (callFunc 58 args) w = .ok (.enter 58 args) w := fun args w => by kernel_rfl
   go_wp2_with fail
   refine (HT.out _ HBA.out z HM.out  HZ.out).mono ?_;rintro e w3 ⟨rfl, hb3⟩;have HB3 := Lib.hid (Below.step HBA.out hb3);clear hb3
   cases hc : R z with
   | true =>
    have HF : Hid (l.all R = (l.drop (k + 1)).all R) := by show _ = _; rw [hrec.out, HD.out, List.all_cons, hc, Bool.true_and]
    clear hc;go_wp2_with fail
    go_roundw
    case rel => exact ⟨k + 1, by omega, by go_num, HF, HB3.out⟩
    case measure => simp [intOf]; omega
   | false =>
    have HF : Hid (listB least most R l = false) := by show _ = _; rw [HL.out, hrec.out, HD.out, List.all_cons, hc, Bool.false_and]
    clear hc;go_wp2_with fail
    go_ret
    exact ⟨ret_bool HF.out.symm, HB3.out⟩
  ·have HF : Hid (listB least most R l = true) := by show _ = _; rw [HL.out, hrec.out, List.drop_of_length_le (by omega)]; rfl
   go_wp2_with fail
   go_ret
   exact ⟨ret_bool HF.out.symm, HB.out⟩
set_option maxRecDepth 100000 in
set_option maxHeartbeats 1000000 in
theorem rl_facts (l : List Fa) (least most : Int) (R : Fa → Bool) (S : Nat → Prop) (w : World) (a : Value) (hS : ∀ k, S k → k < w.heap.size) (ha : RepFas S w l a)
  (tells : ∀ (wr : World), Below w.heap.size w wr → ∀ x ∈ l, ∀ (ga : Option Addr) (gc : Nat), RepFa S wr x (.string x.name) (.slice ga x.args.length gc) → Calls Tryz.prog 60 #[.agg #[.string x.name, .slice ga x.args.length gc]] wr fun e w' => e = .returned (.bool (R x)) ∧ Below wr.heap.size wr w') :
  Calls Tryz.prog 59 #[a, .int .i64 least, .int .i64 most, .func (.func 60) #[] #[]] w fun e w' => e = .returned (.bool (listB least most R l)) ∧ Below w.heap.size w w' := by
 have HA := Lib.hid ha; have HT := Lib.hid tells
 obtain ⟨aa, cap, rfl⟩ := SlG.form ha;have hlen : l.length * 40 ≤ 140737488355328 := SlG.bytes ha;clear ha tells
 by_cases h1 : (l.length : Int) < least
 ·have HF := Lib.hid (listB_few (most := most) (R := R) h1)
  have h1' : decide ((l.length : Int) < least) = true := by simpa using h1
  go_enter Tryz.func59, Tryz.ntmps59
  go_wp2_with fail
  go_ret
  exact ⟨ret_bool HF.out.symm, Below.refl _ _⟩
 have h1' : decide ((l.length : Int) < least) = false := by simpa using h1
 by_cases h2 : most < (l.length : Int)
 ·have HF := Lib.hid (listB_many (least := least) (R := R) h2)
  have h2' : decide (most < (l.length : Int)) = true := by simpa using h2
  go_enter Tryz.func59, Tryz.ntmps59
  go_wp2_with fail
  go_ret
  exact ⟨ret_bool HF.out.symm, Below.refl _ _⟩
 have h2' : decide (most < (l.length : Int)) = false := by simpa using h2
 have HL := Lib.hid (listB_some (R := R) (show least ≤ (l.length : Int) by omega) (show (l.length : Int) ≤ most by omega));clear h1 h2;go_enter Tryz.func59, Tryz.ntmps59
 go_wp2_with fail
 go_loopw [23] (fun i wr => ∃ k : Nat, k ≤ l.length ∧ i = .int .i64 k ∧ Hid (l.all R = (l.drop k).all R) ∧ Below w.heap.size w wr) (fun i _ => l.length - (intOf i).toNat)
 case atStart => exact ⟨0, Nat.zero_le _, rfl, rfl, Below.refl _ _⟩
 case round =>
  obtain ⟨k, hk, rfl, hrec, hbel⟩ := hrel;have HB := Lib.hid hbel;clear h1' h2'
  by_cases hl : k < l.length
  ·have hA := RepFas.on (fun _ h => h) (fun j hj => hbel.block j (hS j hj)) HA.out
   obtain ⟨-, -, b, o, ga, gc, rfl, -, g0, g1, g⟩ := RepFas.at hA k hl;have G := Lib.hid g;have HM := Lib.hid (show l[k] ∈ l from List.getElem_mem hl);have HD := Lib.hid (List.drop_eq_getElem_cons hl);clear hA g;generalize l[k] = z at *;have hba := below_alloc wr (.cells #[.string z.name, .slice ga z.args.length gc] 73);have HZ := Lib.hid (RepFa.on (fun _ h => h) (fun j hj => hba.block j (Nat.lt_of_lt_of_le (hS j hj) hbel.size)) G.out);have HBA := Lib.hid (Below.step hbel hba);clear hbel hba;have hen : ∀ args w, Sem.run Tryz.prog (callFunc 60 args) w = .ok (.enter 60 args) w := fun args w => by kernel_rfl
   go_wp2_with fail
   refine (HT.out _ HBA.out z HM.out ga gc HZ.out).mono ?_;rintro e w3 ⟨rfl, hb3⟩;have HB3 := Lib.hid (Below.step HBA.out hb3);clear hb3
   cases hc : R z with
   | true =>
    have HF : Hid (l.all R = (l.drop (k + 1)).all R) := by show _ = _; rw [hrec.out, HD.out, List.all_cons, hc, Bool.true_and]
    clear hc;go_wp2_with fail
    go_roundw
    case rel => exact ⟨k + 1, by omega, by go_num, HF, HB3.out⟩
    case measure => simp [intOf]; omega
   | false =>
    have HF : Hid (listB least most R l = false) := by show _ = _; rw [HL.out, hrec.out, HD.out, List.all_cons, hc, Bool.false_and]
    clear hc;go_wp2_with fail
    go_ret
    exact ⟨ret_bool HF.out.symm, HB3.out⟩
  ·have HF : Hid (listB least most R l = true) := by show _ = _; rw [HL.out, hrec.out, List.drop_of_length_le (by omega)]; rfl
   go_wp2_with fail
   go_ret
   exact ⟨ret_bool HF.out.symm, HB.out⟩
set_option maxRecDepth 100000 in
set_option maxHeartbeats 1000000 in
theorem rl_rules (l : List Ru) (least most : Int) (R : Ru → Bool) (S : Nat → Prop) (w : World) (a : Value) (hS : ∀ k, S k → k < w.heap.size) (ha : RepRus S w l a)
  (tells : ∀ (wr : World), Below w.heap.size w wr → ∀ x ∈ l, ∀ (fa : Option Addr) (fc : Nat) (ga : Option Addr) (gc : Nat), RepRu S wr x (.string x.label) (.string x.head) (.slice fa x.args.length fc) (.string x.agg) (.int .i64 x.at') (.slice ga x.body.length gc) → Calls Tryz.prog 62 #[.agg #[.string x.label, .string x.head, .slice fa x.args.length fc, .string x.agg, .int .i64 x.at', .slice ga x.body.length gc]] wr fun e w' => e = .returned (.bool (R x)) ∧ Below wr.heap.size wr w') :
  Calls Tryz.prog 61 #[a, .int .i64 least, .int .i64 most, .func (.func 62) #[] #[]] w fun e w' => e = .returned (.bool (listB least most R l)) ∧ Below w.heap.size w w' := by
 have HA := Lib.hid ha; have HT := Lib.hid tells
 obtain ⟨aa, cap, rfl⟩ := SlG.form ha;have hlen : l.length * 104 ≤ 140737488355328 := SlG.bytes ha;clear ha tells
 by_cases h1 : (l.length : Int) < least
 ·have HF := Lib.hid (listB_few (most := most) (R := R) h1)
  have h1' : decide ((l.length : Int) < least) = true := by simpa using h1
  go_enter Tryz.func61, Tryz.ntmps61
  go_wp2_with fail
  go_ret
  exact ⟨ret_bool HF.out.symm, Below.refl _ _⟩
 have h1' : decide ((l.length : Int) < least) = false := by simpa using h1
 by_cases h2 : most < (l.length : Int)
 ·have HF := Lib.hid (listB_many (least := least) (R := R) h2)
  have h2' : decide (most < (l.length : Int)) = true := by simpa using h2
  go_enter Tryz.func61, Tryz.ntmps61
  go_wp2_with fail
  go_ret
  exact ⟨ret_bool HF.out.symm, Below.refl _ _⟩
 have h2' : decide (most < (l.length : Int)) = false := by simpa using h2
 have HL := Lib.hid (listB_some (R := R) (show least ≤ (l.length : Int) by omega) (show (l.length : Int) ≤ most by omega));clear h1 h2;go_enter Tryz.func61, Tryz.ntmps61
 go_wp2_with fail
 go_loopw [23] (fun i wr => ∃ k : Nat, k ≤ l.length ∧ i = .int .i64 k ∧ Hid (l.all R = (l.drop k).all R) ∧ Below w.heap.size w wr) (fun i _ => l.length - (intOf i).toNat)
 case atStart => exact ⟨0, Nat.zero_le _, rfl, rfl, Below.refl _ _⟩
 case round =>
  obtain ⟨k, hk, rfl, hrec, hbel⟩ := hrel;have HB := Lib.hid hbel;clear h1' h2'
  by_cases hl : k < l.length
  ·have hA := RepRus.on (fun _ h => h) (fun j hj => hbel.block j (hS j hj)) HA.out
   obtain ⟨-, -, b, o, fa, fc, ga, gc, rfl, -, g0, g1, g2, g3, g4, g5, g⟩ := RepRus.at hA k hl;have G := Lib.hid g;have HM := Lib.hid (show l[k] ∈ l from List.getElem_mem hl);have HD := Lib.hid (List.drop_eq_getElem_cons hl);clear hA g;generalize l[k] = z at *;have hba := below_alloc wr (.cells #[.string z.label, .string z.head, .slice fa z.args.length fc, .string z.agg, .int .i64 z.at', .slice ga z.body.length gc] 47);have HZ := Lib.hid (RepRu.on (fun _ h => h) (fun j hj => hba.block j (Nat.lt_of_lt_of_le (hS j hj) hbel.size)) G.out);have HBA := Lib.hid (Below.step hbel hba);clear hbel hba;have hen : ∀ args w, Sem.run Tryz.prog (callFunc 62 args) w = .ok (.enter 62 args) w := fun args w => by kernel_rfl
   go_wp2_with fail
   refine (HT.out _ HBA.out z HM.out fa fc ga gc HZ.out).mono ?_;rintro e w3 ⟨rfl, hb3⟩;have HB3 := Lib.hid (Below.step HBA.out hb3);clear hb3
   cases hc : R z with
   | true =>
    have HF : Hid (l.all R = (l.drop (k + 1)).all R) := by show _ = _; rw [hrec.out, HD.out, List.all_cons, hc, Bool.true_and]
    clear hc;go_wp2_with fail
    go_roundw
    case rel => exact ⟨k + 1, by omega, by go_num, HF, HB3.out⟩
    case measure => simp [intOf]; omega
   | false =>
    have HF : Hid (listB least most R l = false) := by show _ = _; rw [HL.out, hrec.out, HD.out, List.all_cons, hc, Bool.false_and]
    clear hc;go_wp2_with fail
    go_ret
    exact ⟨ret_bool HF.out.symm, HB3.out⟩
  ·have HF : Hid (listB least most R l = true) := by show _ = _; rw [HL.out, hrec.out, List.drop_of_length_le (by omega)]; rfl
   go_wp2_with fail
   go_ret
   exact ⟨ret_bool HF.out.symm, HB.out⟩
end Go.Proofs.YtjmnnjikmmglpaaGreat
namespace Go.Proofs.YtjmnnjikmmglpaaGreat
open Go.RowKit
def eqS (a b : ByteArray) : Bool := a.toList == b.toList
theorem eqS_iff {a b : ByteArray} : eqS a b = true ↔ a = b := by
 rw [eqS, beq_iff_eq, Lib.toList_data, Lib.toList_data];exact ⟨fun h => ByteArray.ext (Array.toList_inj.1 h), fun h => by rw [h]⟩
theorem ret_i {a b : Int} (h : a = b) : Ending.returned (.int .i64 a) = .returned (.int .i64 b) := by rw [h]
def arityL : List De → ByteArray → Int
 | [], _ => 0
 | d :: l, s => if eqS d.name s = true then d.arity else arityL l s
set_option maxRecDepth 100000 in
set_option maxHeartbeats 1000000 in
theorem relArity_any (p : Pr) (s : ByteArray) (S : Nat → Prop) (w : World) (c0 c1 c2 : Value) (hS : ∀ k, S k → k < w.heap.size) (hp : RepPr S w p c0 c1 c2) :
  Calls Tryz.prog 105 #[.agg #[c0, c1, c2], .string s] w fun e w' => e = .returned (.int .i64 (arityL p.decls s)) ∧ Below w.heap.size w w' := by
 have hlb := SlG.bytes hp.1;have HA := Lib.hid hp.1;obtain ⟨f0, f1, rfl⟩ := SlG.form hp.1;obtain ⟨f2, f3, rfl⟩ := SlG.form hp.2.1;obtain ⟨f4, f5, rfl⟩ := SlG.form hp.2.2;clear hp;go_enter Tryz.func105, Tryz.ntmps105
 go_wp2_with fail
 have x0 := boxPr_new w (.slice f0 p.decls.length f1) (.slice f2 p.facts.length f3) (.slice f4 p.rules.length f5);have d0 := below_alloc w (.cells #[.slice f0 p.decls.length f1, .slice f2 p.facts.length f3, .slice f4 p.rules.length f5] 28);generalize w.alloc (.cells #[.slice f0 p.decls.length f1, .slice f2 p.facts.length f3, .slice f4 p.rules.length f5] 28) = w1 at *;obtain ⟨p0, p1, p2⟩ := x0.cells;have HD0 := Lib.hid d0;clear d0 x0;go_wp2_with fail
 clear p0 p1 p2;go_loopw [10] (fun i wr => ∃ k : Nat, k ≤ p.decls.length ∧ i = .int .i64 k ∧ Hid (arityL p.decls s = arityL (p.decls.drop k) s) ∧ Below w.heap.size w wr) (fun i _ => p.decls.length - (intOf i).toNat)
 case atStart => exact ⟨0, Nat.zero_le _, rfl, rfl, HD0.out⟩
 case round =>
  obtain ⟨k, hk, rfl, hrec, hbel⟩ := hrel
  by_cases hl : k < p.decls.length
  ·have hA := (SlG.on (fun _ h => h) (fun j hj => hbel.block j (hS j hj)) (fun _ _ _ h => h) HA.out : RepDes S wr p.decls (.slice f0 p.decls.length f1))
   obtain ⟨-, -, b, o, rfl, hSb, g0, g1, g⟩ := RepDes.at hA k hl;have HD := Lib.hid (List.drop_eq_getElem_cons hl);clear hA g hSb;generalize p.decls[k] = z at *;have hba := below_alloc wr (.cells #[.string z.name, .int .i64 z.arity] 112);have hbx := boxDe_new wr (.string z.name) (.int .i64 z.arity);have HB := Lib.hid (Below.step hbel hba);obtain ⟨e0, e1⟩ := hbx.cells;clear hbel hba hbx
   cases hc : (z.name.toList == s.toList) with
   | true =>
    have HF : Hid (arityL p.decls s = z.arity) := by show _ = _; rw [hrec.out, HD.out, arityL, if_pos (show eqS z.name s = true from hc)]
    go_wp2_with fail
    go_ret
    exact ⟨ret_i HF.out.symm, HB.out⟩
   | false =>
    have HF : Hid (arityL p.decls s = arityL (p.decls.drop (k + 1)) s) := by show _ = _; rw [hrec.out, HD.out, arityL, if_neg (by rw [eqS, hc]; decide)]
    go_wp2_with fail
    go_roundw
    case rel => exact ⟨k + 1, hl, by go_num, HF, HB.out⟩
    case measure => simp [intOf]; omega
  ·have HF : Hid (arityL p.decls s = 0) := by show _ = _; rw [hrec.out, List.drop_of_length_le (by omega)]; rfl
   go_wp2_with fail
   go_ret
   exact ⟨ret_i HF.out.symm, hbel⟩
set_option maxRecDepth 100000 in
set_option maxHeartbeats 1000000 in
theorem fits_any (p : Pr) (s : ByteArray) (n : Int) (S : Nat → Prop) (w : World) (c0 c1 c2 : Value) (hS : ∀ k, S k → k < w.heap.size) (hp : RepPr S w p c0 c1 c2) :
  Calls Tryz.prog 65 #[.agg #[c0, c1, c2], .string s, .int .i64 n] w fun e w' => e = .returned (.bool (arityL p.decls s == n)) ∧ Below w.heap.size w w' := by
 have HP := Lib.hid hp;obtain ⟨f0, f1, rfl⟩ := SlG.form hp.1;obtain ⟨f2, f3, rfl⟩ := SlG.form hp.2.1;obtain ⟨f4, f5, rfl⟩ := SlG.form hp.2.2;clear hp;go_enter Tryz.func65, Tryz.ntmps65
 go_wp2_with fail
 have x0 := boxPr_new w (.slice f0 p.decls.length f1) (.slice f2 p.facts.length f3) (.slice f4 p.rules.length f5);have d0 := below_alloc w (.cells #[.slice f0 p.decls.length f1, .slice f2 p.facts.length f3, .slice f4 p.rules.length f5] 28);generalize w.alloc (.cells #[.slice f0 p.decls.length f1, .slice f2 p.facts.length f3, .slice f4 p.rules.length f5] 28) = w1 at *;obtain ⟨p0, p1, p2⟩ := x0.cells;have HD0 := Lib.hid d0;clear d0 x0;go_wp2_with fail
 refine (relArity_any p s S w1 _ _ _ (fun k hk => Nat.lt_of_lt_of_le (hS k hk) HD0.out.size) (RepPr.on (fun _ h => h) (fun k hk => HD0.out.block k (hS k hk)) HP.out)).mono ?_;rintro e w2 ⟨rfl, hb⟩;have HB := Lib.hid (Below.step HD0.out hb);clear hb p0 p1 p2;obtain ⟨m, hm⟩ : ∃ m, arityL p.decls s = m := ⟨_, rfl⟩;rw [hm];have HM := Lib.hid hm;clear hm;go_wp2_with fail
 go_ret
 exact ⟨ret_bool (by rw [HM.out]), HB.out⟩
end Go.Proofs.YtjmnnjikmmglpaaGreat
