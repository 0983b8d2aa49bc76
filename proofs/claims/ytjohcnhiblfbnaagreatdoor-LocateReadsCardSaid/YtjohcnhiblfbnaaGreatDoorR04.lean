/-
  PrLists, TermBox, ScArity, ScNames, LocData, LocMap, LocSmall
-/
import Derived.Test.YtjohcnhiblfbnaaGreatDoorR03
import Derived.Test.YtjohcnhiblfbnaaGreatDoorR01
import Derived.Test.YtjohcnhiblfbnaaGreatDoorProg
import Derived.StringKeys
import Derived.Lib.Hide
import Derived.Maps.OwnSet
import Derived.WalkKit
import Derived.DeepKeys4
import Derived.Deep.Cut
namespace Go.Proofs.YtjohcnhiblfbnaaGreatDoor
open Go.RowKit
set_option maxRecDepth 100000 in
set_option maxHeartbeats 1000000 in
theorem rl_terms (l : List Tm) (least most : Int) (R : Tm → Bool) (S : Nat → Prop) (w : World) (a : Value) (hS : ∀ k, S k → k < w.heap.size) (ha : RepMs S w l a)
  (tells : ∀ (wr : World), Below w.heap.size w wr → ∀ x ∈ l, ∀ (fa : Option Addr) (fc : Nat) (ga : Option Addr) (gc : Nat), RepM S wr x (.int .i64 x.kind) (.string x.name) (.int .i64 x.val.kind) (.int .i64 x.val.num) (.string x.val.text) (.slice fa x.val.list.length fc) (.slice ga x.args.length gc) → Calls Tryz.prog 145 #[.agg #[.int .i64 x.kind, .string x.name, .int .i64 x.val.kind, .int .i64 x.val.num, .string x.val.text, .slice fa x.val.list.length fc, .slice ga x.args.length gc]] wr fun e w' => e = .returned (.bool (R x)) ∧ Below wr.heap.size wr w') :
  Calls Tryz.prog 144 #[a, .int .i64 least, .int .i64 most, .func (.func 145) #[] #[]] w fun e w' => e = .returned (.bool (listB least most R l)) ∧ Below w.heap.size w w' := by
 have HA := Lib.hid ha; have HT := Lib.hid tells
 obtain ⟨aa, cap, rfl⟩ := SlG.form ha
 have hlen : l.length * 104 ≤ 140737488355328 := SlG.bytes ha
 clear ha tells
 by_cases h1 : (l.length : Int) < least
 ·have HF := Lib.hid (listB_few (most := most) (R := R) h1)
  have h1' : decide ((l.length : Int) < least) = true := by simpa using h1
  go_enter Tryz.func144, Tryz.ntmps144
  go_wp2_with fail
  go_ret
  exact ⟨ret_bool HF.out.symm, Below.refl _ _⟩
 have h1' : decide ((l.length : Int) < least) = false := by simpa using h1
 by_cases h2 : most < (l.length : Int)
 ·have HF := Lib.hid (listB_many (least := least) (R := R) h2)
  have h2' : decide (most < (l.length : Int)) = true := by simpa using h2
  go_enter Tryz.func144, Tryz.ntmps144
  go_wp2_with fail
  go_ret
  exact ⟨ret_bool HF.out.symm, Below.refl _ _⟩
 have h2' : decide (most < (l.length : Int)) = false := by simpa using h2
 have HL := Lib.hid (listB_some (R := R) (show least ≤ (l.length : Int) by omega) (show (l.length : Int) ≤ most by omega))
 clear h1 h2
 go_enter Tryz.func144, Tryz.ntmps144
 go_wp2_with fail
 go_loopw [23] (fun i wr => ∃ k : Nat, k ≤ l.length ∧ i = .int .i64 k ∧ Hid (l.all R = (l.drop k).all R) ∧ Below w.heap.size w wr) (fun i _ => l.length - (intOf i).toNat)
 case atStart => exact ⟨0, Nat.zero_le _, rfl, rfl, Below.refl _ _⟩
 case round =>
  obtain ⟨k, hk, rfl, hrec, hbel⟩ := hrel
  have HB := Lib.hid hbel
  clear h1' h2'
  by_cases hl : k < l.length
  ·have hA := RepMs.on (fun _ h => h) (fun j hj => hbel.block j (hS j hj)) HA.out
   obtain ⟨-, -, b, o, fa, fc, ga, gc, rfl, -, g0, g1, g2, g3, g4, g5, g6, g⟩ := RepMs.at hA k hl
   have G := Lib.hid g
   have HM := Lib.hid (show l[k] ∈ l from List.getElem_mem hl)
   have HD := Lib.hid (List.drop_eq_getElem_cons hl)
   clear hA g
   generalize l[k] = z at *
   have hba := below_alloc wr (.cells #[.int .i64 z.kind, .string z.name, .int .i64 z.val.kind, .int .i64 z.val.num, .string z.val.text, .slice fa z.val.list.length fc, .slice ga z.args.length gc] 52)
   have HZ := Lib.hid (RepM.on (fun _ h => h) (fun j hj => hba.block j (Nat.lt_of_lt_of_le (hS j hj) hbel.size)) z G.out)
   have HBA := Lib.hid (Below.step hbel hba)
   clear hbel hba
   have hen : ∀ args w, Sem.run Tryz.prog (callFunc 145 args) w = .ok (.enter 145 args) w := fun args w => by kernel_rfl
   go_wp2_with fail
   refine (HT.out _ HBA.out z HM.out fa fc ga gc HZ.out).mono ?_
   rintro e w3 ⟨rfl, hb3⟩
   have HB3 := Lib.hid (Below.step HBA.out hb3)
   clear hb3
   cases hc : R z with
   | true =>
    have HF : Hid (l.all R = (l.drop (k + 1)).all R) := by show _ = _; rw [hrec.out, HD.out, List.all_cons, hc, Bool.true_and]
    clear hc
    go_wp2_with fail
    go_roundw
    case rel => exact ⟨k + 1, by omega, by go_num, HF, HB3.out⟩
    case measure => simp [intOf]; omega
   | false =>
    have HF : Hid (listB least most R l = false) := by show _ = _; rw [HL.out, hrec.out, HD.out, List.all_cons, hc, Bool.false_and]
    clear hc
    go_wp2_with fail
    go_ret
    exact ⟨ret_bool HF.out.symm, HB3.out⟩
  ·have HF : Hid (listB least most R l = true) := by show _ = _; rw [HL.out, hrec.out, List.drop_of_length_le (by omega)]; rfl
   go_wp2_with fail
   go_ret
   exact ⟨ret_bool HF.out.symm, HB.out⟩
set_option maxRecDepth 100000 in
set_option maxHeartbeats 1000000 in
theorem rl_parts (l : List Tm) (least most : Int) (R : Tm → Bool) (q : Value) (S : Nat → Prop) (w : World) (a : Value) (hS : ∀ k, S k → k < w.heap.size) (ha : RepMs S w l a)
  (tells : ∀ (wr : World), Below w.heap.size w wr → ∀ x ∈ l, ∀ (fa : Option Addr) (fc : Nat) (ga : Option Addr) (gc : Nat), RepM S wr x (.int .i64 x.kind) (.string x.name) (.int .i64 x.val.kind) (.int .i64 x.val.num) (.string x.val.text) (.slice fa x.val.list.length fc) (.slice ga x.args.length gc) → Calls Tryz.prog 193 #[.agg #[.int .i64 x.kind, .string x.name, .int .i64 x.val.kind, .int .i64 x.val.num, .string x.val.text, .slice fa x.val.list.length fc, .slice ga x.args.length gc], q] wr fun e w' => e = .returned (.bool (R x)) ∧ Below wr.heap.size wr w') :
  Calls Tryz.prog 144 #[a, .int .i64 least, .int .i64 most, .func (.func 193) #[] #[q]] w fun e w' => e = .returned (.bool (listB least most R l)) ∧ Below w.heap.size w w' := by
 have HA := Lib.hid ha; have HT := Lib.hid tells
 obtain ⟨aa, cap, rfl⟩ := SlG.form ha
 have hlen : l.length * 104 ≤ 140737488355328 := SlG.bytes ha
 clear ha tells
 by_cases h1 : (l.length : Int) < least
 ·have HF := Lib.hid (listB_few (most := most) (R := R) h1)
  have h1' : decide ((l.length : Int) < least) = true := by simpa using h1
  go_enter Tryz.func144, Tryz.ntmps144
  go_wp2_with fail
  go_ret
  exact ⟨ret_bool HF.out.symm, Below.refl _ _⟩
 have h1' : decide ((l.length : Int) < least) = false := by simpa using h1
 by_cases h2 : most < (l.length : Int)
 ·have HF := Lib.hid (listB_many (least := least) (R := R) h2)
  have h2' : decide (most < (l.length : Int)) = true := by simpa using h2
  go_enter Tryz.func144, Tryz.ntmps144
  go_wp2_with fail
  go_ret
  exact ⟨ret_bool HF.out.symm, Below.refl _ _⟩
 have h2' : decide (most < (l.length : Int)) = false := by simpa using h2
 have HL := Lib.hid (listB_some (R := R) (show least ≤ (l.length : Int) by omega) (show (l.length : Int) ≤ most by omega))
 clear h1 h2
 go_enter Tryz.func144, Tryz.ntmps144
 go_wp2_with fail
 go_loopw [23] (fun i wr => ∃ k : Nat, k ≤ l.length ∧ i = .int .i64 k ∧ Hid (l.all R = (l.drop k).all R) ∧ Below w.heap.size w wr) (fun i _ => l.length - (intOf i).toNat)
 case atStart => exact ⟨0, Nat.zero_le _, rfl, rfl, Below.refl _ _⟩
 case round =>
  obtain ⟨k, hk, rfl, hrec, hbel⟩ := hrel
  have HB := Lib.hid hbel
  clear h1' h2'
  by_cases hl : k < l.length
  ·have hA := RepMs.on (fun _ h => h) (fun j hj => hbel.block j (hS j hj)) HA.out
   obtain ⟨-, -, b, o, fa, fc, ga, gc, rfl, -, g0, g1, g2, g3, g4, g5, g6, g⟩ := RepMs.at hA k hl
   have G := Lib.hid g
   have HM := Lib.hid (show l[k] ∈ l from List.getElem_mem hl)
   have HD := Lib.hid (List.drop_eq_getElem_cons hl)
   clear hA g
   generalize l[k] = z at *
   have hba := below_alloc wr (.cells #[.int .i64 z.kind, .string z.name, .int .i64 z.val.kind, .int .i64 z.val.num, .string z.val.text, .slice fa z.val.list.length fc, .slice ga z.args.length gc] 52)
   have HZ := Lib.hid (RepM.on (fun _ h => h) (fun j hj => hba.block j (Nat.lt_of_lt_of_le (hS j hj) hbel.size)) z G.out)
   have HBA := Lib.hid (Below.step hbel hba)
   clear hbel hba
   have hen : ∀ args w, Sem.run Tryz.prog (callFunc 193 args) w = .ok (.enter 193 args) w := fun args w => by kernel_rfl
   go_wp2_with fail
   refine (HT.out _ HBA.out z HM.out fa fc ga gc HZ.out).mono ?_
   rintro e w3 ⟨rfl, hb3⟩
   have HB3 := Lib.hid (Below.step HBA.out hb3)
   clear hb3
   cases hc : R z with
   | true =>
    have HF : Hid (l.all R = (l.drop (k + 1)).all R) := by show _ = _; rw [hrec.out, HD.out, List.all_cons, hc, Bool.true_and]
    clear hc
    go_wp2_with fail
    go_roundw
    case rel => exact ⟨k + 1, by omega, by go_num, HF, HB3.out⟩
    case measure => simp [intOf]; omega
   | false =>
    have HF : Hid (listB least most R l = false) := by show _ = _; rw [HL.out, hrec.out, HD.out, List.all_cons, hc, Bool.false_and]
    clear hc
    go_wp2_with fail
    go_ret
    exact ⟨ret_bool HF.out.symm, HB3.out⟩
  ·have HF : Hid (listB least most R l = true) := by show _ = _; rw [HL.out, hrec.out, List.drop_of_length_le (by omega)]; rfl
   go_wp2_with fail
   go_ret
   exact ⟨ret_bool HF.out.symm, HB.out⟩
set_option maxRecDepth 100000 in
set_option maxHeartbeats 1000000 in
theorem rl_literals (l : List Li) (least most : Int) (R : Li → Bool) (S : Nat → Prop) (w : World) (a : Value) (hS : ∀ k, S k → k < w.heap.size) (ha : RepLis S w l a)
  (tells : ∀ (wr : World), Below w.heap.size w wr → ∀ x ∈ l, ∀ (ga : Option Addr) (gc : Nat), RepLi S wr x (.int .i64 x.kind) (.string x.name) (.slice ga x.args.length gc) → Calls Tryz.prog 116 #[.agg #[.int .i64 x.kind, .string x.name, .slice ga x.args.length gc]] wr fun e w' => e = .returned (.bool (R x)) ∧ Below wr.heap.size wr w') :
  Calls Tryz.prog 115 #[a, .int .i64 least, .int .i64 most, .func (.func 116) #[] #[]] w fun e w' => e = .returned (.bool (listB least most R l)) ∧ Below w.heap.size w w' := by
 have HA := Lib.hid ha; have HT := Lib.hid tells
 obtain ⟨aa, cap, rfl⟩ := SlG.form ha
 have hlen : l.length * 48 ≤ 140737488355328 := SlG.bytes ha
 clear ha tells
 by_cases h1 : (l.length : Int) < least
 ·have HF := Lib.hid (listB_few (most := most) (R := R) h1)
  have h1' : decide ((l.length : Int) < least) = true := by simpa using h1
  go_enter Tryz.func115, Tryz.ntmps115
  go_wp2_with fail
  go_ret
  exact ⟨ret_bool HF.out.symm, Below.refl _ _⟩
 have h1' : decide ((l.length : Int) < least) = false := by simpa using h1
 by_cases h2 : most < (l.length : Int)
 ·have HF := Lib.hid (listB_many (least := least) (R := R) h2)
  have h2' : decide (most < (l.length : Int)) = true := by simpa using h2
  go_enter Tryz.func115, Tryz.ntmps115
  go_wp2_with fail
  go_ret
  exact ⟨ret_bool HF.out.symm, Below.refl _ _⟩
 have h2' : decide (most < (l.length : Int)) = false := by simpa using h2
 have HL := Lib.hid (listB_some (R := R) (show least ≤ (l.length : Int) by omega) (show (l.length : Int) ≤ most by omega))
 clear h1 h2
 go_enter Tryz.func115, Tryz.ntmps115
 go_wp2_with fail
 go_loopw [23] (fun i wr => ∃ k : Nat, k ≤ l.length ∧ i = .int .i64 k ∧ Hid (l.all R = (l.drop k).all R) ∧ Below w.heap.size w wr) (fun i _ => l.length - (intOf i).toNat)
 case atStart => exact ⟨0, Nat.zero_le _, rfl, rfl, Below.refl _ _⟩
 case round =>
  obtain ⟨k, hk, rfl, hrec, hbel⟩ := hrel
  have HB := Lib.hid hbel
  clear h1' h2'
  by_cases hl : k < l.length
  ·have hA := RepLis.on (fun _ h => h) (fun j hj => hbel.block j (hS j hj)) HA.out
   obtain ⟨-, -, b, o, ga, gc, rfl, -, g0, g1, g2, g⟩ := RepLis.at hA k hl
   have G := Lib.hid g
   have HM := Lib.hid (show l[k] ∈ l from List.getElem_mem hl)
   have HD := Lib.hid (List.drop_eq_getElem_cons hl)
   clear hA g
   generalize l[k] = z at *
   have hba := below_alloc wr (.cells #[.int .i64 z.kind, .string z.name, .slice ga z.args.length gc] 46)
   have HZ := Lib.hid (RepLi.on (fun _ h => h) (fun j hj => hba.block j (Nat.lt_of_lt_of_le (hS j hj) hbel.size)) G.out)
   have HBA := Lib.hid (Below.step hbel hba)
   clear hbel hba
   have hen : ∀ args w, Sem.run Tryz.prog (callFunc 116 args) w = .ok (.enter 116 args) w := fun args w => by kernel_rfl
   go_wp2_with fail
   refine (HT.out _ HBA.out z HM.out ga gc HZ.out).mono ?_
   rintro e w3 ⟨rfl, hb3⟩
   have HB3 := Lib.hid (Below.step HBA.out hb3)
   clear hb3
   cases hc : R z with
   | true =>
    have HF : Hid (l.all R = (l.drop (k + 1)).all R) := by show _ = _; rw [hrec.out, HD.out, List.all_cons, hc, Bool.true_and]
    clear hc
    go_wp2_with fail
    go_roundw
    case rel => exact ⟨k + 1, by omega, by go_num, HF, HB3.out⟩
    case measure => simp [intOf]; omega
   | false =>
    have HF : Hid (listB least most R l = false) := by show _ = _; rw [HL.out, hrec.out, HD.out, List.all_cons, hc, Bool.false_and]
    clear hc
    go_wp2_with fail
    go_ret
    exact ⟨ret_bool HF.out.symm, HB3.out⟩
  ·have HF : Hid (listB least most R l = true) := by show _ = _; rw [HL.out, hrec.out, List.drop_of_length_le (by omega)]; rfl
   go_wp2_with fail
   go_ret
   exact ⟨ret_bool HF.out.symm, HB.out⟩
end Go.Proofs.YtjohcnhiblfbnaaGreatDoor
namespace Go.Proofs.YtjohcnhiblfbnaaGreatDoor
open Go.RowKit
def BoxM (w : World) (k : Nat) (c0 c1 c2 c3 c4 c5 c6 : Value) : Prop := w.heap[k]? = some (.cells #[c0, c1, c2, c3, c4, c5, c6] 52 (0, 0))
theorem BoxM.cells {w : World} {k : Nat} {c0 c1 c2 c3 c4 c5 c6 : Value} (h : BoxM w k c0 c1 c2 c3 c4 c5 c6) : w.cell? ⟨k, 0, none⟩ = some c0 ∧ w.cell? ⟨k, 1, none⟩ = some c1 ∧ w.cell? ⟨k, 2, none⟩ = some c2 ∧ w.cell? ⟨k, 3, none⟩ = some c3 ∧ w.cell? ⟨k, 4, none⟩ = some c4 ∧ w.cell? ⟨k, 5, none⟩ = some c5 ∧ w.cell? ⟨k, 6, none⟩ = some c6 :=
 ⟨cell_of_block' h _ rfl, cell_of_block' h _ rfl, cell_of_block' h _ rfl, cell_of_block' h _ rfl, cell_of_block' h _ rfl, cell_of_block' h _ rfl, cell_of_block' h _ rfl⟩
theorem BoxM.lt {w : World} {k : Nat} {c0 c1 c2 c3 c4 c5 c6 : Value} (h : BoxM w k c0 c1 c2 c3 c4 c5 c6) : k < w.heap.size := (Array.getElem?_eq_some_iff.1 h).1
theorem BoxM.on {w w' : World} {k : Nat} {c0 c1 c2 c3 c4 c5 c6 : Value} (h : BoxM w k c0 c1 c2 c3 c4 c5 c6) (hb : Below w.heap.size w w') : BoxM w' k c0 c1 c2 c3 c4 c5 c6 := (hb.block k h.lt).trans h
theorem boxM_new (w : World) (c0 c1 c2 c3 c4 c5 c6 : Value) : BoxM (w.alloc (.cells #[c0, c1, c2, c3, c4, c5, c6] 52)) w.heap.size c0 c1 c2 c3 c4 c5 c6 := alloc_new' _ _
def BoxLi (w : World) (k : Nat) (c0 c1 c2 : Value) : Prop := w.heap[k]? = some (.cells #[c0, c1, c2] 46 (0, 0))
theorem BoxLi.cells {w : World} {k : Nat} {c0 c1 c2 : Value} (h : BoxLi w k c0 c1 c2) : w.cell? ⟨k, 0, none⟩ = some c0 ∧ w.cell? ⟨k, 1, none⟩ = some c1 ∧ w.cell? ⟨k, 2, none⟩ = some c2 :=
 ⟨cell_of_block' h _ rfl, cell_of_block' h _ rfl, cell_of_block' h _ rfl⟩
theorem BoxLi.lt {w : World} {k : Nat} {c0 c1 c2 : Value} (h : BoxLi w k c0 c1 c2) : k < w.heap.size := (Array.getElem?_eq_some_iff.1 h).1
theorem BoxLi.on {w w' : World} {k : Nat} {c0 c1 c2 : Value} (h : BoxLi w k c0 c1 c2) (hb : Below w.heap.size w w') : BoxLi w' k c0 c1 c2 := (hb.block k h.lt).trans h
theorem boxLi_new (w : World) (c0 c1 c2 : Value) : BoxLi (w.alloc (.cells #[c0, c1, c2] 46)) w.heap.size c0 c1 c2 := alloc_new' _ _
def BoxRu (w : World) (k : Nat) (c0 c1 c2 c3 c4 c5 : Value) : Prop := w.heap[k]? = some (.cells #[c0, c1, c2, c3, c4, c5] 43 (0, 0))
theorem BoxRu.cells {w : World} {k : Nat} {c0 c1 c2 c3 c4 c5 : Value} (h : BoxRu w k c0 c1 c2 c3 c4 c5) : w.cell? ⟨k, 0, none⟩ = some c0 ∧ w.cell? ⟨k, 1, none⟩ = some c1 ∧ w.cell? ⟨k, 2, none⟩ = some c2 ∧ w.cell? ⟨k, 3, none⟩ = some c3 ∧ w.cell? ⟨k, 4, none⟩ = some c4 ∧ w.cell? ⟨k, 5, none⟩ = some c5 :=
 ⟨cell_of_block' h _ rfl, cell_of_block' h _ rfl, cell_of_block' h _ rfl, cell_of_block' h _ rfl, cell_of_block' h _ rfl, cell_of_block' h _ rfl⟩
theorem BoxRu.lt {w : World} {k : Nat} {c0 c1 c2 c3 c4 c5 : Value} (h : BoxRu w k c0 c1 c2 c3 c4 c5) : k < w.heap.size := (Array.getElem?_eq_some_iff.1 h).1
theorem BoxRu.on {w w' : World} {k : Nat} {c0 c1 c2 c3 c4 c5 : Value} (h : BoxRu w k c0 c1 c2 c3 c4 c5) (hb : Below w.heap.size w w') : BoxRu w' k c0 c1 c2 c3 c4 c5 := (hb.block k h.lt).trans h
theorem boxRu_new (w : World) (c0 c1 c2 c3 c4 c5 : Value) : BoxRu (w.alloc (.cells #[c0, c1, c2, c3, c4, c5] 43)) w.heap.size c0 c1 c2 c3 c4 c5 := alloc_new' _ _
def BoxDe (w : World) (k : Nat) (c0 c1 : Value) : Prop := w.heap[k]? = some (.cells #[c0, c1] 77 (0, 0))
theorem BoxDe.cells {w : World} {k : Nat} {c0 c1 : Value} (h : BoxDe w k c0 c1) : w.cell? ⟨k, 0, none⟩ = some c0 ∧ w.cell? ⟨k, 1, none⟩ = some c1 :=
 ⟨cell_of_block' h _ rfl, cell_of_block' h _ rfl⟩
theorem BoxDe.lt {w : World} {k : Nat} {c0 c1 : Value} (h : BoxDe w k c0 c1) : k < w.heap.size := (Array.getElem?_eq_some_iff.1 h).1
theorem BoxDe.on {w w' : World} {k : Nat} {c0 c1 : Value} (h : BoxDe w k c0 c1) (hb : Below w.heap.size w w') : BoxDe w' k c0 c1 := (hb.block k h.lt).trans h
def BoxFa (w : World) (k : Nat) (c0 c1 : Value) : Prop := w.heap[k]? = some (.cells #[c0, c1] 70 (0, 0))
theorem BoxFa.cells {w : World} {k : Nat} {c0 c1 : Value} (h : BoxFa w k c0 c1) : w.cell? ⟨k, 0, none⟩ = some c0 ∧ w.cell? ⟨k, 1, none⟩ = some c1 :=
 ⟨cell_of_block' h _ rfl, cell_of_block' h _ rfl⟩
theorem BoxFa.lt {w : World} {k : Nat} {c0 c1 : Value} (h : BoxFa w k c0 c1) : k < w.heap.size := (Array.getElem?_eq_some_iff.1 h).1
theorem BoxFa.on {w w' : World} {k : Nat} {c0 c1 : Value} (h : BoxFa w k c0 c1) (hb : Below w.heap.size w w') : BoxFa w' k c0 c1 := (hb.block k h.lt).trans h
theorem boxFa_new (w : World) (c0 c1 : Value) : BoxFa (w.alloc (.cells #[c0, c1] 70)) w.heap.size c0 c1 := alloc_new' _ _
def BoxPr (w : World) (k : Nat) (c0 c1 c2 : Value) : Prop := w.heap[k]? = some (.cells #[c0, c1, c2] 26 (0, 0))
theorem BoxPr.cells {w : World} {k : Nat} {c0 c1 c2 : Value} (h : BoxPr w k c0 c1 c2) : w.cell? ⟨k, 0, none⟩ = some c0 ∧ w.cell? ⟨k, 1, none⟩ = some c1 ∧ w.cell? ⟨k, 2, none⟩ = some c2 :=
 ⟨cell_of_block' h _ rfl, cell_of_block' h _ rfl, cell_of_block' h _ rfl⟩
theorem BoxPr.lt {w : World} {k : Nat} {c0 c1 c2 : Value} (h : BoxPr w k c0 c1 c2) : k < w.heap.size := (Array.getElem?_eq_some_iff.1 h).1
theorem BoxPr.on {w w' : World} {k : Nat} {c0 c1 c2 : Value} (h : BoxPr w k c0 c1 c2) (hb : Below w.heap.size w w') : BoxPr w' k c0 c1 c2 := (hb.block k h.lt).trans h
theorem boxPr_new (w : World) (c0 c1 c2 : Value) : BoxPr (w.alloc (.cells #[c0, c1, c2] 26)) w.heap.size c0 c1 c2 := alloc_new' _ _
end Go.Proofs.YtjohcnhiblfbnaaGreatDoor
namespace Go.Proofs.YtjohcnhiblfbnaaGreatDoor
open Go.RowKit
def eqS (a b : ByteArray) : Bool := a.toList == b.toList
theorem eqS_iff {a b : ByteArray} : eqS a b = true ↔ a = b := by
 rw [eqS, beq_iff_eq, Lib.toList_data, Lib.toList_data]
 exact ⟨fun h => ByteArray.ext (Array.toList_inj.1 h), fun h => by rw [h]⟩
end Go.Proofs.YtjohcnhiblfbnaaGreatDoor
namespace Go.Proofs.YtjohcnhiblfbnaaGreatDoor
open Go.RowKit Go.Maps
def inB (l : List ByteArray) (s : ByteArray) : Bool := l.any fun x => x.data.toList == s.data.toList
theorem inB_iff {l : List ByteArray} {s : ByteArray} : inB l s = true ↔ s ∈ l := by
 rw [inB, List.any_eq_true]
 constructor
 ·rintro ⟨x, hx, he⟩
  have : x = s := ByteArray.ext (Array.toList_inj.1 (by simpa using he))
  rwa [← this]
 ·intro h
  exact ⟨s, h, by simp⟩
theorem grown_of_below {w w' : World} (h : Below w.heap.size w w') : w.grownBy w' none := ⟨h.os, h.tape, h.output, h.size, fun k hk _ => h.block k hk⟩
end Go.Proofs.YtjohcnhiblfbnaaGreatDoor
namespace Go.Proofs.YtjohcnhiblfbnaaGreatDoor
open Go.RowKit
def kind0 (l : List Tm) : Int := match l with
 | [] => 0
 | t :: _ => t.kind
def name0 (l : List Tm) : ByteArray := match l with
 | [] => ⟨#[]⟩
 | t :: _ => t.name
def hasPl (l : Li) : Bool := l.kind == 1 || l.kind == 2
def isAt (l : Li) : Bool := l.kind == 1
def linkS : ByteArray := ⟨#[108, 105, 110, 107]⟩
def isLk (l : Li) : Bool := isAt l && (eqS l.name linkS && (decide (1 < l.args.length) && kind0 (l.args.drop 1) == 1))
def atVarsL (body : List Li) : Bool := body.all fun l => !hasPl l || kind0 l.args == 1
def placesL : List ByteArray → List Li → List ByteArray
 | acc, [] => acc
 | acc, l :: t => if hasPl l = true ∧ inB acc (name0 l.args) = false then placesL (acc ++ [name0 l.args]) t else placesL acc t
def onWay (a b : ByteArray) (l : Li) : Bool := isLk l && (eqS (name0 l.args) a && eqS (name0 (l.args.drop 1)) b)
def firstWay (a b : ByteArray) : List Li → Nat → Option Nat
 | [], _ => none
 | l :: t, i => if onWay a b l = true then some i else firstWay a b t (i + 1)
def betweenZ (f : ByteArray → ByteArray → Option Nat) (a b : ByteArray) : ByteArray × ByteArray × Bool :=
 match f b a with
 | some k => match f a b with
  | some i => if k < i then (b, a, true) else (a, b, true)
  | none => (b, a, true)
 | none => (a, b, (f a b).isSome)
structure Pl where
 from' : ByteArray
 to' : ByteArray
 head : ByteArray
def placeFrom (h : ByteArray) (f : ByteArray → ByteArray → Option Nat) (at' : List ByteArray) : Pl × Bool :=
 match at' with
 | [a] => (⟨a, ⟨#[]⟩, h⟩, eqS h a || (f a h).isSome)
 | [a, b] => (⟨(betweenZ f a b).1, (betweenZ f a b).2.1, h⟩, (betweenZ f a b).2.2 && inB [a, b] h)
 | _ => (⟨⟨#[]⟩, ⟨#[]⟩, h⟩, false)
def bodyPlaceZ (r : Ru) : Pl × Bool :=
 if r.body.any isAt = true then placeFrom (name0 r.args) (fun a b => firstWay a b r.body 0) (placesL [] r.body) else (⟨⟨#[]⟩, ⟨#[]⟩, name0 r.args⟩, false)
def zPl : Pl := ⟨⟨#[]⟩, ⟨#[]⟩, ⟨#[]⟩⟩
def aggFits (r : Ru) (p : Pl) : Bool := r.agg.toList.isEmpty || (p.to'.toList.isEmpty && eqS p.head p.from')
def placeZ (r : Ru) : Pl × Bool :=
 if ruB r = true ∧ eqS r.head linkS = false ∧ atVarsL r.body = true ∧ kind0 r.args = 1 then
  (if (bodyPlaceZ r).2 = true ∧ aggFits r (bodyPlaceZ r).1 = true then ((bodyPlaceZ r).1, true) else (zPl, false))
 else (zPl, false)
theorem firstWay_snoc (a b : ByteArray) (x : Li) : ∀ (l : List Li) (i : Nat), firstWay a b (l ++ [x]) i = match firstWay a b l i with
  | some k => some k
  | none => if onWay a b x = true then some (i + l.length) else none
 | [], i => by simp only [List.nil_append, firstWay, List.length_nil, Nat.add_zero]
 | y :: l, i => by
  rw [List.cons_append, firstWay, firstWay]
  split
  ·rfl
  ·rw [firstWay_snoc a b x l (i + 1)]
   cases firstWay a b l (i + 1) with
   | none => simp only [List.length_cons]; rw [show i + 1 + l.length = i + (l.length + 1) by omega]
   | some k => rfl
theorem placesL_snoc (x : Li) : ∀ (l : List Li) (acc : List ByteArray), placesL acc (l ++ [x]) = if hasPl x = true ∧ inB (placesL acc l) (name0 x.args) = false then placesL acc l ++ [name0 x.args] else placesL acc l
 | [], acc => by rw [List.nil_append]; rfl
 | y :: l, acc => by
  rw [List.cons_append, placesL, placesL]
  split
  ·exact placesL_snoc x l _
  ·exact placesL_snoc x l _
theorem placesL_len : ∀ (l : List Li) (acc : List ByteArray), (placesL acc l).length ≤ acc.length + l.length
 | [], acc => by simp [placesL]
 | y :: l, acc => by
  rw [placesL]
  split
  ·have := placesL_len l (acc ++ [name0 y.args]); simp at this ⊢; omega
  ·have := placesL_len l acc; simp at this ⊢; omega
end Go.Proofs.YtjohcnhiblfbnaaGreatDoor
namespace Go.Proofs.YtjohcnhiblfbnaaGreatDoor
open Go.RowKit Go.Maps
theorem locLaid : laidOutB Tryz.prog = true := by kernel_rfl
theorem keyWay : Keyed Tryz.prog 117 := Keyed.of_law (deep_law_laid locLaid (m := 2) (by omega) (of_decide_eq_true (by kernel_rfl)) (by kernel_rfl) (by kernel_rfl))
def wayV (a b : ByteArray) : Value := .agg #[.string a, .string b]
theorem types_succ : ∃ m, Tryz.prog.types.size = m + 1 := by
 have h : 1 ≤ Tryz.prog.types.size := of_decide_eq_true (by kernel_rfl)
 exact ⟨_, (Nat.sub_add_cancel h).symm⟩
theorem key_way {a b : ByteArray} (ha : a.size ≤ maxLen) (hb : b.size ≤ maxLen) : ∃ l, keyOf Tryz.prog 117 (wayV a b) = some l := by
 obtain ⟨m, hm⟩ := types_succ
 have h1 : Tryz.prog.keyType 117 = true := by kernel_rfl
 have h2 : (wayV a b).formed Tryz.prog 117 = true := by
  have hc : Tryz.prog.cellsOf 117 = 2 := by kernel_rfl
  simp [wayV, Value.formed, Tryz.underlying117, hc]
 have h3 : Tryz.prog.cellsOf 117 = 2 := by kernel_rfl
 have h4 : Tryz.prog.cellsOf 9 = 1 := by kernel_rfl
 have h5 : Tryz.prog.keyLits (Tryz.prog.types.size + 1) 117 (wayV a b).cells.toList = some [.string a.data.toList, .string b.data.toList] := by
  rw [hm]
  simp [Program.keyLits, Tryz.underlying117, Tryz.underlying9, wayV, Value.cells, h3, h4, ha, hb]
 refine ⟨.string (keyBytes [.string a.data.toList, .string b.data.toList]), ?_⟩
 unfold keyOf
 simp only [Tryz.underlying117]
 rw [if_pos (by rw [h1, h2]; rfl), h5]
 rfl
theorem zeroInt (w : World) : (zeroValue 3).run Tryz.prog w = .ok (.int .i64 0) w := by kernel_rfl
def LinksAt (w : World) (b n : Nat) (f : ByteArray → ByteArray → Option Nat) : Prop :=
 ∃ D : DataW Unit, w.ownsMap Tryz.prog 117 (plainElem Tryz.prog 3) b n D ∧ ∀ x y l, keyOf Tryz.prog 117 (wayV x y) = some l → Maps.has D l = (f x y).isSome ∧ ∀ i, f x y = some i → D.atKey l (.lit (.int .i64 0)) = .lit (.int .i64 (i : Int))
theorem LinksAt.lt {w : World} {b n : Nat} {f : ByteArray → ByteArray → Option Nat} (h : LinksAt w b n f) : b < w.heap.size := by
 obtain ⟨D, h, -⟩ := h
 exact h.lt
theorem LinksAt.grown {w w' : World} {b n : Nat} {f : ByteArray → ByteArray → Option Nat} (h : LinksAt w b n f) {row : Option Nat} (hg : w.grownBy w' row) (hne : some b ≠ row) : LinksAt w' b n f := by
 obtain ⟨D, h, k⟩ := h
 exact ⟨D, h.kept hg hne, k⟩
theorem LinksAt.on {w w' : World} {b n : Nat} {f : ByteArray → ByteArray → Option Nat} (h : LinksAt w b n f) (hg : Below w.heap.size w w') : LinksAt w' b n f := h.grown (grown_of_below hg) (by simp)
theorem linksAt_new (w : World) : LinksAt (w.alloc (.map #[] 0)) w.heap.size 0 (fun _ _ => none) :=
 ⟨_, World.ownsMap_made _ _ _ _, fun x y l _ => ⟨by simp [Maps.has], fun i h => by cases h⟩⟩
theorem LinksAt.congr {w : World} {b n : Nat} {f g : ByteArray → ByteArray → Option Nat} (h : LinksAt w b n f) (e : ∀ x y, f x y = g x y) : LinksAt w b n g := by
 rwa [show g = f from funext fun x => funext fun y => (e x y).symm]
theorem links_put {w : World} {D : DataW Unit} {b n : Nat} {f : ByteArray → ByteArray → Option Nat} {a c : ByteArray} {l : Lit} {i : Nat}
  (hown : w.ownsMap Tryz.prog 117 (plainElem Tryz.prog 3) b n (D.put l (.lit (.int .i64 (i : Int))))) (hD : IsMap D) (hl : keyOf Tryz.prog 117 (wayV a c) = some l)
  (hf : ∀ x y l, keyOf Tryz.prog 117 (wayV x y) = some l → Maps.has D l = (f x y).isSome ∧ ∀ i, f x y = some i → D.atKey l (.lit (.int .i64 0)) = .lit (.int .i64 (i : Int))) :
  LinksAt w b n (fun x y => if x = a ∧ y = c then some i else f x y) := by
 refine ⟨_, hown, fun x y l' hl' => ?_⟩
 by_cases hxy : x = a ∧ y = c
 ·obtain ⟨rfl, rfl⟩ := hxy
  obtain rfl : l' = l := by rw [hl] at hl'; exact (Option.some.inj hl').symm
  simp only [and_self, if_true]
  refine ⟨by rw [has_put_same hD (keyWay.key hl)]; rfl, fun j hj => ?_⟩
  cases hj
  exact atKey_put_same hD (keyWay.key hl) _ _
 ·have hne : l' ≠ l := by
   intro e
   have h := keyWay.inj (e ▸ hl') hl
   simp only [wayV, Value.agg.injEq] at h
   apply hxy
   have h0 := congrArg Array.toList h
   simpa using h0
  simp only [if_neg hxy]
  obtain ⟨h1, h2⟩ := hf x y l' hl'
  exact ⟨by rw [has_put_other hne]; exact h1, fun j hj => by rw [atKey_put_other hne]; exact h2 j hj⟩
end Go.Proofs.YtjohcnhiblfbnaaGreatDoor
namespace Go.Proofs.YtjohcnhiblfbnaaGreatDoor
open Go.RowKit Go.Maps
set_option maxRecDepth 100000 in
set_option maxHeartbeats 1000000 in
theorem isAtom_any (x : Li) (ga : Option Addr) (gc : Nat) (w : World) :
  Calls Tryz.prog 75 #[.agg #[.int .i64 x.kind, .string x.name, .slice ga x.args.length gc]] w fun e w' => e = .returned (.bool (isAt x)) ∧ Below w.heap.size w w' := by
 go_enter Tryz.func75, Tryz.ntmps75
 go_upto_region 1 with fail
 have x1 := boxLi_new w (.int .i64 x.kind) (.string x.name) (.slice ga x.args.length gc)
 have b1 := below_alloc w (.cells #[.int .i64 x.kind, .string x.name, .slice ga x.args.length gc] 46)
 generalize w.alloc (.cells #[.int .i64 x.kind, .string x.name, .slice ga x.args.length gc] 46) = w1 at *
 have HB := Lib.hid b1
 obtain ⟨p0, p1, p2⟩ := x1.cells
 clear b1 x1
 go_wp2_with fail
 go_ret
 exact ⟨rfl, HB.out⟩
set_option maxRecDepth 100000 in
set_option maxHeartbeats 1000000 in
theorem hasPlace_any (x : Li) (ga : Option Addr) (gc : Nat) (w : World) :
  Calls Tryz.prog 73 #[.agg #[.int .i64 x.kind, .string x.name, .slice ga x.args.length gc]] w fun e w' => e = .returned (.bool (hasPl x)) ∧ Below w.heap.size w w' := by
 go_enter Tryz.func73, Tryz.ntmps73
 go_upto_region 1 with fail
 have x1 := boxLi_new w (.int .i64 x.kind) (.string x.name) (.slice ga x.args.length gc)
 have b1 := below_alloc w (.cells #[.int .i64 x.kind, .string x.name, .slice ga x.args.length gc] 46)
 generalize w.alloc (.cells #[.int .i64 x.kind, .string x.name, .slice ga x.args.length gc] 46) = w1 at *
 have HB := Lib.hid b1
 obtain ⟨p0, p1, p2⟩ := x1.cells
 clear b1 x1
 cases h1 : (x.kind == 1) with
 | true =>
  have HF : Hid (hasPl x = true) := by show _ = _; rw [hasPl, h1]; rfl
  go_wp2_with fail
  go_ret
  exact ⟨ret_bool HF.out.symm, HB.out⟩
 | false =>
  have HF : Hid (hasPl x = (x.kind == 2)) := by show _ = _; rw [hasPl, h1]; rfl
  go_wp2_with fail
  go_ret
  exact ⟨ret_bool HF.out.symm, HB.out⟩
theorem eqS_link (s : ByteArray) : eqS s linkS = (s.toList == [108, 105, 110, 107]) := by rw [eqS, Lib.toList_data linkS]; rfl
theorem kind0_at {l : List Tm} (h : 0 < l.length) : kind0 l = l[0].kind ∧ name0 l = l[0].name := by
 cases l with
 | nil => simp at h
 | cons t m => exact ⟨rfl, rfl⟩
theorem kind1_at {l : List Tm} (h : 1 < l.length) : kind0 (l.drop 1) = l[1].kind ∧ name0 (l.drop 1) = l[1].name := by
 cases l with
 | nil => simp at h
 | cons t m => cases m with
  | nil => simp at h
  | cons u m => exact ⟨rfl, rfl⟩
set_option maxRecDepth 100000 in
set_option maxHeartbeats 1000000 in
theorem isLink_any (x : Li) (S : Nat → Prop) (ga : Option Addr) (gc : Nat) (w : World) (hS : ∀ k, S k → k < w.heap.size) (hx : RepMs S w x.args (.slice ga x.args.length gc)) :
  Calls Tryz.prog 124 #[.agg #[.int .i64 x.kind, .string x.name, .slice ga x.args.length gc]] w fun e w' => e = .returned (.bool (isLk x)) ∧ Below w.heap.size w w' := by
 have HX := Lib.hid hx; have HS := Lib.hid hS
 clear hx hS
 go_enter Tryz.func124, Tryz.ntmps124
 go_upto_region 1 with fail
 have x1 := boxLi_new w (.int .i64 x.kind) (.string x.name) (.slice ga x.args.length gc)
 have b1 := below_alloc w (.cells #[.int .i64 x.kind, .string x.name, .slice ga x.args.length gc] 46)
 generalize w.alloc (.cells #[.int .i64 x.kind, .string x.name, .slice ga x.args.length gc] 46) = w1 at *
 have X1 := Lib.hid x1; have B1 := Lib.hid b1
 obtain ⟨p0, p1, p2⟩ := x1.cells
 clear b1 x1
 go_wp2_with fail
 refine (isAtom_any x ga gc w1).mono ?_
 rintro e w2 ⟨rfl, hb⟩
 have B2 := Lib.hid (Below.step B1.out hb)
 have X2 := Lib.hid (X1.out.on hb)
 clear hb p0 p1 p2 X1 B1
 obtain ⟨p0, p1, p2⟩ := X2.out.cells
 cases h1 : isAt x with
 | false =>
  have HF : Hid (isLk x = false) := by show _ = _; rw [isLk, h1]; rfl
  clear h1
  go_wp2_with fail
  go_ret
  exact ⟨ret_bool HF.out.symm, B2.out⟩
 | true =>
  have HF : Hid (isLk x = (eqS x.name linkS && (decide (1 < x.args.length) && kind0 (x.args.drop 1) == 1))) := by show _ = _; rw [isLk, h1]; rfl
  clear h1
  cases h2 : (x.name.toList == [108, 105, 110, 107]) with
  | false =>
   have HF2 : Hid (isLk x = false) := by show _ = _; rw [HF.out, show eqS x.name linkS = false by rw [eqS_link]; exact h2]; rfl
   go_wp2_with fail
   go_ret
   exact ⟨ret_bool HF2.out.symm, B2.out⟩
  | true =>
   have HF2 : Hid (isLk x = (decide (1 < x.args.length) && kind0 (x.args.drop 1) == 1)) := by show _ = _; rw [HF.out, show eqS x.name linkS = true by rw [eqS_link]; exact h2]; rfl
   by_cases h3 : 1 < x.args.length
   ·have i1 : decide ((1 : Int) < (x.args.length : Int)) = true := decide_eq_true (by omega)
    have i2 : (1 : Int) < (x.args.length : Int) := by omega
    have hA := RepMs.on (fun _ h => h) (fun j hj => B2.out.block j (HS.out j hj)) HX.out
    obtain ⟨-, -, b, o, fa', fc', xa', xc', rfl, -, g0, g1, g2, g3, g4, g5, g6, -⟩ := RepMs.at hA 1 h3
    have HF3 : Hid (isLk x = (x.args[1].kind == 1)) := by show _ = _; rw [HF2.out, (kind1_at h3).1, decide_eq_true h3]; rfl
    clear hA
    generalize x.args[1] = z at *
    go_wp2_with fail
    go_ret
    exact ⟨ret_bool HF3.out.symm, B2.out⟩
   ·have i1 : decide ((1 : Int) < (x.args.length : Int)) = false := decide_eq_false (by omega)
    have HF3 : Hid (isLk x = false) := by show _ = _; rw [HF2.out, decide_eq_false h3]; rfl
    go_wp2_with fail
    go_ret
    exact ⟨ret_bool HF3.out.symm, B2.out⟩
set_option maxRecDepth 100000 in
set_option maxHeartbeats 1000000 in
theorem linksHas_any (b n : Nat) (f : ByteArray → ByteArray → Option Nat) (x y : ByteArray) (w : World) (hx : x.size ≤ maxLen) (hy : y.size ≤ maxLen) (h : LinksAt w b n f) :
  Calls Tryz.prog 78 #[.map (some b), .string x, .string y] w fun e w' => e = .returned (.bool (f x y).isSome) ∧ Below w.heap.size w w' := by
 obtain ⟨D, hown, hf⟩ := h
 obtain ⟨l, hkey⟩ := key_way hx hy
 have HH := Lib.hid (hf x y l hkey).1
 rw [wayV] at hkey
 clear hf hx hy
 go_enter Tryz.func78, Tryz.ntmps78
 go_wp2_with (first
  | (at_lookup; refine wpList_lookup_own_ok_int _ rfl _ _ 112 rfl 117 3 .i64 keyWay Tryz.underlying112 Tryz.underlying3 (zeroInt _) b n _ rfl hown _ _ rfl hkey ?_; intro c hat hwc; rw [HH.out])
  | fail)
 go_ret
 exact ⟨rfl, Below.refl _ _⟩
end Go.Proofs.YtjohcnhiblfbnaaGreatDoor
