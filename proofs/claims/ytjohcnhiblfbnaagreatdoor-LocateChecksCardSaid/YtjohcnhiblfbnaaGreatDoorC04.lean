/-
  TermAt, PrLists
-/
import Derived.Test.YtjohcnhiblfbnaaGreatDoorC01
import Derived.Test.YtjohcnhiblfbnaaGreatDoorC03
namespace Go.Proofs.YtjohcnhiblfbnaaGreatDoor
open Go.RowKit
theorem RepLi.form {S : Nat → Prop} {w : World} {x : Li} {c0 c1 c2 : Value} (h : RepLi S w x c0 c1 c2) : ∃ (ga : Option Addr) (gc : Nat), c0 = .int .i64 x.kind ∧ c1 = .string x.name ∧ c2 = .slice ga x.args.length gc := by
 obtain ⟨h0, h1, -, -, h4⟩ := h
 obtain ⟨ga, gc, e⟩ := SlG.form h4
 exact ⟨ga, gc, h0, h1, e⟩
theorem RepLis.at {S : Nat → Prop} {w : World} {l : List Li} {a : Option Addr} {len cap : Nat} (h : RepLis S w l (.slice a len cap)) (i : Nat) (hi : i < l.length) :
  len = l.length ∧ l.length ≤ cap ∧ ∃ (b o : Nat) (ga : Option Addr) (gc : Nat), a = some ⟨b, o, none⟩ ∧ S b ∧ w.cell? ⟨b, o + i * 3, none⟩ = some (.int .i64 l[i].kind) ∧ w.cell? ⟨b, o + i * 3 + 1, none⟩ = some (.string l[i].name) ∧ w.cell? ⟨b, o + i * 3 + 2, none⟩ = some (.slice ga l[i].args.length gc) ∧ RepLi S w l[i] (.int .i64 l[i].kind) (.string l[i].name) (.slice ga l[i].args.length gc) := by
 obtain ⟨h1, h2, b, o, h3, h4, c, hc, hr⟩ := SlG.at h i hi
 obtain ⟨ga, gc, e0, e1, e2⟩ := hr.form
 rw [e0, e1, e2] at hr
 exact ⟨h1, h2, b, o, ga, gc, h3, h4, by rw [← e0]; exact hc 0 (by omega), by rw [← e1]; exact hc 1 (by omega), by rw [← e2]; exact hc 2 (by omega), hr⟩
theorem RepDe.form {S : Nat → Prop} {w : World} {x : De} {c0 c1 : Value} (h : RepDe S w x c0 c1) : c0 = .string x.name ∧ c1 = .int .i64 x.arity := by
 exact ⟨h.1, h.2.1⟩
theorem RepDes.at {S : Nat → Prop} {w : World} {l : List De} {a : Option Addr} {len cap : Nat} (h : RepDes S w l (.slice a len cap)) (i : Nat) (hi : i < l.length) :
  len = l.length ∧ l.length ≤ cap ∧ ∃ (b o : Nat) , a = some ⟨b, o, none⟩ ∧ S b ∧ w.cell? ⟨b, o + i * 2, none⟩ = some (.string l[i].name) ∧ w.cell? ⟨b, o + i * 2 + 1, none⟩ = some (.int .i64 l[i].arity) ∧ RepDe S w l[i] (.string l[i].name) (.int .i64 l[i].arity) := by
 obtain ⟨h1, h2, b, o, h3, h4, c, hc, hr⟩ := SlG.at h i hi
 obtain ⟨e0, e1⟩ := hr.form
 rw [e0, e1] at hr
 exact ⟨h1, h2, b, o, h3, h4, by rw [← e0]; exact hc 0 (by omega), by rw [← e1]; exact hc 1 (by omega), hr⟩
theorem RepFa.form {S : Nat → Prop} {w : World} {x : Fa} {c0 c1 : Value} (h : RepFa S w x c0 c1) : ∃ (ga : Option Addr) (gc : Nat), c0 = .string x.name ∧ c1 = .slice ga x.args.length gc := by
 obtain ⟨ga, -, -, gc, e, -⟩ := id h.2.2
 exact ⟨ga, gc, h.1, e⟩
theorem RepFas.at {S : Nat → Prop} {w : World} {l : List Fa} {a : Option Addr} {len cap : Nat} (h : RepFas S w l (.slice a len cap)) (i : Nat) (hi : i < l.length) :
  len = l.length ∧ l.length ≤ cap ∧ ∃ (b o : Nat) (ga : Option Addr) (gc : Nat), a = some ⟨b, o, none⟩ ∧ S b ∧ w.cell? ⟨b, o + i * 2, none⟩ = some (.string l[i].name) ∧ w.cell? ⟨b, o + i * 2 + 1, none⟩ = some (.slice ga l[i].args.length gc) ∧ RepFa S w l[i] (.string l[i].name) (.slice ga l[i].args.length gc) := by
 obtain ⟨h1, h2, b, o, h3, h4, c, hc, hr⟩ := SlG.at h i hi
 obtain ⟨ga, gc, e0, e1⟩ := hr.form
 rw [e0, e1] at hr
 exact ⟨h1, h2, b, o, ga, gc, h3, h4, by rw [← e0]; exact hc 0 (by omega), by rw [← e1]; exact hc 1 (by omega), hr⟩
theorem RepRu.form {S : Nat → Prop} {w : World} {x : Ru} {c0 c1 c2 c3 c4 c5 : Value} (h : RepRu S w x c0 c1 c2 c3 c4 c5) : ∃ (fa : Option Addr) (fc : Nat) (ga : Option Addr) (gc : Nat), c0 = .string x.label ∧ c1 = .string x.head ∧ c2 = .slice fa x.args.length fc ∧ c3 = .string x.agg ∧ c4 = .int .i64 x.at' ∧ c5 = .slice ga x.body.length gc := by
 obtain ⟨h0, h1, h3, h4, -, -, -, -, h8, h9⟩ := h
 obtain ⟨fa, fc, e⟩ := SlG.form h8
 obtain ⟨ga, gc, e'⟩ := SlG.form h9
 exact ⟨fa, fc, ga, gc, h0, h1, e, h3, h4, e'⟩
theorem RepRus.at {S : Nat → Prop} {w : World} {l : List Ru} {a : Option Addr} {len cap : Nat} (h : RepRus S w l (.slice a len cap)) (i : Nat) (hi : i < l.length) :
  len = l.length ∧ l.length ≤ cap ∧ ∃ (b o : Nat) (fa : Option Addr) (fc : Nat) (ga : Option Addr) (gc : Nat), a = some ⟨b, o, none⟩ ∧ S b ∧ w.cell? ⟨b, o + i * 6, none⟩ = some (.string l[i].label) ∧ w.cell? ⟨b, o + i * 6 + 1, none⟩ = some (.string l[i].head) ∧ w.cell? ⟨b, o + i * 6 + 2, none⟩ = some (.slice fa l[i].args.length fc) ∧ w.cell? ⟨b, o + i * 6 + 3, none⟩ = some (.string l[i].agg) ∧ w.cell? ⟨b, o + i * 6 + 4, none⟩ = some (.int .i64 l[i].at') ∧ w.cell? ⟨b, o + i * 6 + 5, none⟩ = some (.slice ga l[i].body.length gc) ∧ RepRu S w l[i] (.string l[i].label) (.string l[i].head) (.slice fa l[i].args.length fc) (.string l[i].agg) (.int .i64 l[i].at') (.slice ga l[i].body.length gc) := by
 obtain ⟨h1, h2, b, o, h3, h4, c, hc, hr⟩ := SlG.at h i hi
 obtain ⟨fa, fc, ga, gc, e0, e1, e2, e3, e4, e5⟩ := hr.form
 rw [e0, e1, e2, e3, e4, e5] at hr
 exact ⟨h1, h2, b, o, fa, fc, ga, gc, h3, h4, by rw [← e0]; exact hc 0 (by omega), by rw [← e1]; exact hc 1 (by omega), by rw [← e2]; exact hc 2 (by omega), by rw [← e3]; exact hc 3 (by omega), by rw [← e4]; exact hc 4 (by omega), by rw [← e5]; exact hc 5 (by omega), hr⟩
end Go.Proofs.YtjohcnhiblfbnaaGreatDoor
namespace Go.Proofs.YtjohcnhiblfbnaaGreatDoor
open Go.RowKit
set_option maxRecDepth 100000 in
set_option maxHeartbeats 1000000 in
theorem rl_terms (l : List Tm) (least most : Int) (R : Tm → Bool) (S : Nat → Prop) (w : World) (a : Value) (hS : ∀ k, S k → k < w.heap.size) (ha : RepMs S w l a)
  (tells : ∀ (wr : World), Below w.heap.size w wr → ∀ x ∈ l, ∀ (fa : Option Addr) (fc : Nat) (ga : Option Addr) (gc : Nat), RepM S wr x (.int .i64 x.kind) (.string x.name) (.int .i64 x.val.kind) (.int .i64 x.val.num) (.string x.val.text) (.slice fa x.val.list.length fc) (.slice ga x.args.length gc) → Calls Tryz.prog 145 #[.agg #[.int .i64 x.kind, .string x.name, .int .i64 x.val.kind, .int .i64 x.val.num, .string x.val.text, .slice fa x.val.list.length fc, .slice ga x.args.length gc]] wr fun e w' => e = .returned (.bool (R x)) ∧ Below wr.heap.size wr w') :
  Calls Tryz.prog 144 #[a, .int .i64 least, .int .i64 most, .func (.func 145) #[] #[]] w fun e w' => e = .returned (.bool (listB least most R l)) ∧ Below w.heap.size w w' := by
 have HA := Lib.hid ha; have HT := Lib.hid tells
 obtain ⟨aa, cap, rfl⟩ := SlG.form ha
 have hlen : l.length * 104 ≤ 140737488355328 := SlG.bytes ha
 clear ha tells
 by_cases h1 : (l.length : Int) < least
 ·have HF := Lib.hid (listB_few (most := most) (R := R) h1)
  have h1' : decide ((l.length : Int) < least) = true := by simpa using h1
  go_enter Tryz.func144, Tryz.ntmps144
  go_wp2_with fail
  go_ret
  exact ⟨ret_bool HF.out.symm, Below.refl _ _⟩
 have h1' : decide ((l.length : Int) < least) = false := by simpa using h1
 by_cases h2 : most < (l.length : Int)
 ·have HF := Lib.hid (listB_many (least := least) (R := R) h2)
  have h2' : decide (most < (l.length : Int)) = true := by simpa using h2
  go_enter Tryz.func144, Tryz.ntmps144
  go_wp2_with fail
  go_ret
  exact ⟨ret_bool HF.out.symm, Below.refl _ _⟩
 have h2' : decide (most < (l.length : Int)) = false := by simpa using h2
 have HL := Lib.hid (listB_some (R := R) (show least ≤ (l.length : Int) by omega) (show (l.length : Int) ≤ most by omega))
 clear h1 h2
 go_enter Tryz.func144, Tryz.ntmps144
 go_wp2_with fail
 go_loopw [23] (fun i wr => ∃ k : Nat, k ≤ l.length ∧ i = .int .i64 k ∧ Hid (l.all R = (l.drop k).all R) ∧ Below w.heap.size w wr) (fun i _ => l.length - (intOf i).toNat)
 case atStart => exact ⟨0, Nat.zero_le _, rfl, rfl, Below.refl _ _⟩
 case round =>
  obtain ⟨k, hk, rfl, hrec, hbel⟩ := hrel
  have HB := Lib.hid hbel
  clear h1' h2'
  by_cases hl : k < l.length
  ·have hA := RepMs.on (fun _ h => h) (fun j hj => hbel.block j (hS j hj)) HA.out
   obtain ⟨-, -, b, o, fa, fc, ga, gc, rfl, -, g0, g1, g2, g3, g4, g5, g6, g⟩ := RepMs.at hA k hl
   have G := Lib.hid g
   have HM := Lib.hid (show l[k] ∈ l from List.getElem_mem hl)
   have HD := Lib.hid (List.drop_eq_getElem_cons hl)
   clear hA g
   generalize l[k] = z at *
   have hba := below_alloc wr (.cells #[.int .i64 z.kind, .string z.name, .int .i64 z.val.kind, .int .i64 z.val.num, .string z.val.text, .slice fa z.val.list.length fc, .slice ga z.args.length gc] 52)
   have HZ := Lib.hid (RepM.on (fun _ h => h) (fun j hj => hba.block j (Nat.lt_of_lt_of_le (hS j hj) hbel.size)) z G.out)
   have HBA := Lib.hid (Below.step hbel hba)
   clear hbel hba
   have hen : ∀ args w, Sem.run Tryz.prog (callFunc 145 args) w = .ok (.enter 145 args) w := fun args w => by kernel_rfl
   go_wp2_with fail
   refine (HT.out _ HBA.out z HM.out fa fc ga gc HZ.out).mono ?_
   rintro e w3 ⟨rfl, hb3⟩
   have HB3 := Lib.hid (Below.step HBA.out hb3)
   clear hb3
   cases hc : R z with
   | true =>
    have HF : Hid (l.all R = (l.drop (k + 1)).all R) := by show _ = _; rw [hrec.out, HD.out, List.all_cons, hc, Bool.true_and]
    clear hc
    go_wp2_with fail
    go_roundw
    case rel => exact ⟨k + 1, by omega, by go_num, HF, HB3.out⟩
    case measure => simp [intOf]; omega
   | false =>
    have HF : Hid (listB least most R l = false) := by show _ = _; rw [HL.out, hrec.out, HD.out, List.all_cons, hc, Bool.false_and]
    clear hc
    go_wp2_with fail
    go_ret
    exact ⟨ret_bool HF.out.symm, HB3.out⟩
  ·have HF : Hid (listB least most R l = true) := by show _ = _; rw [HL.out, hrec.out, List.drop_of_length_le (by omega)]; rfl
   go_wp2_with fail
   go_ret
   exact ⟨ret_bool HF.out.symm, HB.out⟩
set_option maxRecDepth 100000 in
set_option maxHeartbeats 1000000 in
theorem rl_parts (l : List Tm) (least most : Int) (R : Tm → Bool) (q : Value) (S : Nat → Prop) (w : World) (a : Value) (hS : ∀ k, S k → k < w.heap.size) (ha : RepMs S w l a)
  (tells : ∀ (wr : World), Below w.heap.size w wr → ∀ x ∈ l, ∀ (fa : Option Addr) (fc : Nat) (ga : Option Addr) (gc : Nat), RepM S wr x (.int .i64 x.kind) (.string x.name) (.int .i64 x.val.kind) (.int .i64 x.val.num) (.string x.val.text) (.slice fa x.val.list.length fc) (.slice ga x.args.length gc) → Calls Tryz.prog 193 #[.agg #[.int .i64 x.kind, .string x.name, .int .i64 x.val.kind, .int .i64 x.val.num, .string x.val.text, .slice fa x.val.list.length fc, .slice ga x.args.length gc], q] wr fun e w' => e = .returned (.bool (R x)) ∧ Below wr.heap.size wr w') :
  Calls Tryz.prog 144 #[a, .int .i64 least, .int .i64 most, .func (.func 193) #[] #[q]] w fun e w' => e = .returned (.bool (listB least most R l)) ∧ Below w.heap.size w w' := by
 have HA := Lib.hid ha; have HT := Lib.hid tells
 obtain ⟨aa, cap, rfl⟩ := SlG.form ha
 have hlen : l.length * 104 ≤ 140737488355328 := SlG.bytes ha
 clear ha tells
 by_cases h1 : (l.length : Int) < least
 ·have HF := Lib.hid (listB_few (most := most) (R := R) h1)
  have h1' : decide ((l.length : Int) < least) = true := by simpa using h1
  go_enter Tryz.func144, Tryz.ntmps144
  go_wp2_with fail
  go_ret
  exact ⟨ret_bool HF.out.symm, Below.refl _ _⟩
 have h1' : decide ((l.length : Int) < least) = false := by simpa using h1
 by_cases h2 : most < (l.length : Int)
 ·have HF := Lib.hid (listB_many (least := least) (R := R) h2)
  have h2' : decide (most < (l.length : Int)) = true := by simpa using h2
  go_enter Tryz.func144, Tryz.ntmps144
  go_wp2_with fail
  go_ret
  exact ⟨ret_bool HF.out.symm, Below.refl _ _⟩
 have h2' : decide (most < (l.length : Int)) = false := by simpa using h2
 have HL := Lib.hid (listB_some (R := R) (show least ≤ (l.length : Int) by omega) (show (l.length : Int) ≤ most by omega))
 clear h1 h2
 go_enter Tryz.func144, Tryz.ntmps144
 go_wp2_with fail
 go_loopw [23] (fun i wr => ∃ k : Nat, k ≤ l.length ∧ i = .int .i64 k ∧ Hid (l.all R = (l.drop k).all R) ∧ Below w.heap.size w wr) (fun i _ => l.length - (intOf i).toNat)
 case atStart => exact ⟨0, Nat.zero_le _, rfl, rfl, Below.refl _ _⟩
 case round =>
  obtain ⟨k, hk, rfl, hrec, hbel⟩ := hrel
  have HB := Lib.hid hbel
  clear h1' h2'
  by_cases hl : k < l.length
  ·have hA := RepMs.on (fun _ h => h) (fun j hj => hbel.block j (hS j hj)) HA.out
   obtain ⟨-, -, b, o, fa, fc, ga, gc, rfl, -, g0, g1, g2, g3, g4, g5, g6, g⟩ := RepMs.at hA k hl
   have G := Lib.hid g
   have HM := Lib.hid (show l[k] ∈ l from List.getElem_mem hl)
   have HD := Lib.hid (List.drop_eq_getElem_cons hl)
   clear hA g
   generalize l[k] = z at *
   have hba := below_alloc wr (.cells #[.int .i64 z.kind, .string z.name, .int .i64 z.val.kind, .int .i64 z.val.num, .string z.val.text, .slice fa z.val.list.length fc, .slice ga z.args.length gc] 52)
   have HZ := Lib.hid (RepM.on (fun _ h => h) (fun j hj => hba.block j (Nat.lt_of_lt_of_le (hS j hj) hbel.size)) z G.out)
   have HBA := Lib.hid (Below.step hbel hba)
   clear hbel hba
   have hen : ∀ args w, Sem.run Tryz.prog (callFunc 193 args) w = .ok (.enter 193 args) w := fun args w => by kernel_rfl
   go_wp2_with fail
   refine (HT.out _ HBA.out z HM.out fa fc ga gc HZ.out).mono ?_
   rintro e w3 ⟨rfl, hb3⟩
   have HB3 := Lib.hid (Below.step HBA.out hb3)
   clear hb3
   cases hc : R z with
   | true =>
    have HF : Hid (l.all R = (l.drop (k + 1)).all R) := by show _ = _; rw [hrec.out, HD.out, List.all_cons, hc, Bool.true_and]
    clear hc
    go_wp2_with fail
    go_roundw
    case rel => exact ⟨k + 1, by omega, by go_num, HF, HB3.out⟩
    case measure => simp [intOf]; omega
   | false =>
    have HF : Hid (listB least most R l = false) := by show _ = _; rw [HL.out, hrec.out, HD.out, List.all_cons, hc, Bool.false_and]
    clear hc
    go_wp2_with fail
    go_ret
    exact ⟨ret_bool HF.out.symm, HB3.out⟩
  ·have HF : Hid (listB least most R l = true) := by show _ = _; rw [HL.out, hrec.out, List.drop_of_length_le (by omega)]; rfl
   go_wp2_with fail
   go_ret
   exact ⟨ret_bool HF.out.symm, HB.out⟩
set_option maxRecDepth 100000 in
set_option maxHeartbeats 1000000 in
theorem rl_values (l : List V) (least most : Int) (R : V → Bool) (S : Nat → Prop) (w : World) (a : Value) (hS : ∀ k, S k → k < w.heap.size) (ha : RepLG S w l a)
  (tells : ∀ (wr : World), Below w.heap.size w wr → ∀ x ∈ l, ∀ (fa : Option Addr) (fc : Nat), RepG S wr x (.int .i64 x.kind) (.int .i64 x.num) (.string x.text) (.slice fa x.list.length fc) → Calls Tryz.prog 131 #[.agg #[.int .i64 x.kind, .int .i64 x.num, .string x.text, .slice fa x.list.length fc]] wr fun e w' => e = .returned (.bool (R x)) ∧ Below wr.heap.size wr w') :
  Calls Tryz.prog 130 #[a, .int .i64 least, .int .i64 most, .func (.func 131) #[] #[]] w fun e w' => e = .returned (.bool (listB least most R l)) ∧ Below w.heap.size w w' := by
 have HA := Lib.hid ha; have HT := Lib.hid tells
 obtain ⟨aa, -, -, cap, rfl, -⟩ := id ha
 have hlen : l.length * 56 ≤ 140737488355328 := by obtain ⟨_, _, _, _, _, _, h, _⟩ := ha; exact h
 clear ha tells
 by_cases h1 : (l.length : Int) < least
 ·have HF := Lib.hid (listB_few (most := most) (R := R) h1)
  have h1' : decide ((l.length : Int) < least) = true := by simpa using h1
  go_enter Tryz.func130, Tryz.ntmps130
  go_wp2_with fail
  go_ret
  exact ⟨ret_bool HF.out.symm, Below.refl _ _⟩
 have h1' : decide ((l.length : Int) < least) = false := by simpa using h1
 by_cases h2 : most < (l.length : Int)
 ·have HF := Lib.hid (listB_many (least := least) (R := R) h2)
  have h2' : decide (most < (l.length : Int)) = true := by simpa using h2
  go_enter Tryz.func130, Tryz.ntmps130
  go_wp2_with fail
  go_ret
  exact ⟨ret_bool HF.out.symm, Below.refl _ _⟩
 have h2' : decide (most < (l.length : Int)) = false := by simpa using h2
 have HL := Lib.hid (listB_some (R := R) (show least ≤ (l.length : Int) by omega) (show (l.length : Int) ≤ most by omega))
 clear h1 h2
 go_enter Tryz.func130, Tryz.ntmps130
 go_wp2_with fail
 go_loopw [23] (fun i wr => ∃ k : Nat, k ≤ l.length ∧ i = .int .i64 k ∧ Hid (l.all R = (l.drop k).all R) ∧ Below w.heap.size w wr) (fun i _ => l.length - (intOf i).toNat)
 case atStart => exact ⟨0, Nat.zero_le _, rfl, rfl, Below.refl _ _⟩
 case round =>
  obtain ⟨k, hk, rfl, hrec, hbel⟩ := hrel
  have HB := Lib.hid hbel
  clear h1' h2'
  by_cases hl : k < l.length
  ·have hA := RepLG.on (fun _ h => h) (fun j hj => hbel.block j (hS j hj)) HA.out
   obtain ⟨-, -, b, o, fa, fc, rfl, -, g0, g1, g2, g3, g⟩ := RepLG.at hA k hl
   have G := Lib.hid g
   have HM := Lib.hid (show l[k] ∈ l from List.getElem_mem hl)
   have HD := Lib.hid (List.drop_eq_getElem_cons hl)
   clear hA g
   generalize l[k] = z at *
   have hba := below_alloc wr (.cells #[.int .i64 z.kind, .int .i64 z.num, .string z.text, .slice fa z.list.length fc] 50)
   have HZ := Lib.hid (RepG.on (fun _ h => h) (fun j hj => hba.block j (Nat.lt_of_lt_of_le (hS j hj) hbel.size)) z G.out)
   have HBA := Lib.hid (Below.step hbel hba)
   clear hbel hba
   have hen : ∀ args w, Sem.run Tryz.prog (callFunc 131 args) w = .ok (.enter 131 args) w := fun args w => by kernel_rfl
   go_wp2_with fail
   refine (HT.out _ HBA.out z HM.out fa fc HZ.out).mono ?_
   rintro e w3 ⟨rfl, hb3⟩
   have HB3 := Lib.hid (Below.step HBA.out hb3)
   clear hb3
   cases hc : R z with
   | true =>
    have HF : Hid (l.all R = (l.drop (k + 1)).all R) := by show _ = _; rw [hrec.out, HD.out, List.all_cons, hc, Bool.true_and]
    clear hc
    go_wp2_with fail
    go_roundw
    case rel => exact ⟨k + 1, by omega, by go_num, HF, HB3.out⟩
    case measure => simp [intOf]; omega
   | false =>
    have HF : Hid (listB least most R l = false) := by show _ = _; rw [HL.out, hrec.out, HD.out, List.all_cons, hc, Bool.false_and]
    clear hc
    go_wp2_with fail
    go_ret
    exact ⟨ret_bool HF.out.symm, HB3.out⟩
  ·have HF : Hid (listB least most R l = true) := by show _ = _; rw [HL.out, hrec.out, List.drop_of_length_le (by omega)]; rfl
   go_wp2_with fail
   go_ret
   exact ⟨ret_bool HF.out.symm, HB.out⟩
set_option maxRecDepth 100000 in
set_option maxHeartbeats 1000000 in
theorem rl_literals (l : List Li) (least most : Int) (R : Li → Bool) (S : Nat → Prop) (w : World) (a : Value) (hS : ∀ k, S k → k < w.heap.size) (ha : RepLis S w l a)
  (tells : ∀ (wr : World), Below w.heap.size w wr → ∀ x ∈ l, ∀ (ga : Option Addr) (gc : Nat), RepLi S wr x (.int .i64 x.kind) (.string x.name) (.slice ga x.args.length gc) → Calls Tryz.prog 116 #[.agg #[.int .i64 x.kind, .string x.name, .slice ga x.args.length gc]] wr fun e w' => e = .returned (.bool (R x)) ∧ Below wr.heap.size wr w') :
  Calls Tryz.prog 115 #[a, .int .i64 least, .int .i64 most, .func (.func 116) #[] #[]] w fun e w' => e = .returned (.bool (listB least most R l)) ∧ Below w.heap.size w w' := by
 have HA := Lib.hid ha; have HT := Lib.hid tells
 obtain ⟨aa, cap, rfl⟩ := SlG.form ha
 have hlen : l.length * 48 ≤ 140737488355328 := SlG.bytes ha
 clear ha tells
 by_cases h1 : (l.length : Int) < least
 ·have HF := Lib.hid (listB_few (most := most) (R := R) h1)
  have h1' : decide ((l.length : Int) < least) = true := by simpa using h1
  go_enter Tryz.func115, Tryz.ntmps115
  go_wp2_with fail
  go_ret
  exact ⟨ret_bool HF.out.symm, Below.refl _ _⟩
 have h1' : decide ((l.length : Int) < least) = false := by simpa using h1
 by_cases h2 : most < (l.length : Int)
 ·have HF := Lib.hid (listB_many (least := least) (R := R) h2)
  have h2' : decide (most < (l.length : Int)) = true := by simpa using h2
  go_enter Tryz.func115, Tryz.ntmps115
  go_wp2_with fail
  go_ret
  exact ⟨ret_bool HF.out.symm, Below.refl _ _⟩
 have h2' : decide (most < (l.length : Int)) = false := by simpa using h2
 have HL := Lib.hid (listB_some (R := R) (show least ≤ (l.length : Int) by omega) (show (l.length : Int) ≤ most by omega))
 clear h1 h2
 go_enter Tryz.func115, Tryz.ntmps115
 go_wp2_with fail
 go_loopw [23] (fun i wr => ∃ k : Nat, k ≤ l.length ∧ i = .int .i64 k ∧ Hid (l.all R = (l.drop k).all R) ∧ Below w.heap.size w wr) (fun i _ => l.length - (intOf i).toNat)
 case atStart => exact ⟨0, Nat.zero_le _, rfl, rfl, Below.refl _ _⟩
 case round =>
  obtain ⟨k, hk, rfl, hrec, hbel⟩ := hrel
  have HB := Lib.hid hbel
  clear h1' h2'
  by_cases hl : k < l.length
  ·have hA := RepLis.on (fun _ h => h) (fun j hj => hbel.block j (hS j hj)) HA.out
   obtain ⟨-, -, b, o, ga, gc, rfl, -, g0, g1, g2, g⟩ := RepLis.at hA k hl
   have G := Lib.hid g
   have HM := Lib.hid (show l[k] ∈ l from List.getElem_mem hl)
   have HD := Lib.hid (List.drop_eq_getElem_cons hl)
   clear hA g
   generalize l[k] = z at *
   have hba := below_alloc wr (.cells #[.int .i64 z.kind, .string z.name, .slice ga z.args.length gc] 46)
   have HZ := Lib.hid (RepLi.on (fun _ h => h) (fun j hj => hba.block j (Nat.lt_of_lt_of_le (hS j hj) hbel.size)) G.out)
   have HBA := Lib.hid (Below.step hbel hba)
   clear hbel hba
   have hen : ∀ args w, Sem.run Tryz.prog (callFunc 116 args) w = .ok (.enter 116 args) w := fun args w => by kernel_rfl
   go_wp2_with fail
   refine (HT.out _ HBA.out z HM.out ga gc HZ.out).mono ?_
   rintro e w3 ⟨rfl, hb3⟩
   have HB3 := Lib.hid (Below.step HBA.out hb3)
   clear hb3
   cases hc : R z with
   | true =>
    have HF : Hid (l.all R = (l.drop (k + 1)).all R) := by show _ = _; rw [hrec.out, HD.out, List.all_cons, hc, Bool.true_and]
    clear hc
    go_wp2_with fail
    go_roundw
    case rel => exact ⟨k + 1, by omega, by go_num, HF, HB3.out⟩
    case measure => simp [intOf]; omega
   | false =>
    have HF : Hid (listB least most R l = false) := by show _ = _; rw [HL.out, hrec.out, HD.out, List.all_cons, hc, Bool.false_and]
    clear hc
    go_wp2_with fail
    go_ret
    exact ⟨ret_bool HF.out.symm, HB3.out⟩
  ·have HF : Hid (listB least most R l = true) := by show _ = _; rw [HL.out, hrec.out, List.drop_of_length_le (by omega)]; rfl
   go_wp2_with fail
   go_ret
   exact ⟨ret_bool HF.out.symm, HB.out⟩
set_option maxRecDepth 100000 in
set_option maxHeartbeats 1000000 in
theorem rl_decls (l : List De) (least most : Int) (R : De → Bool) (S : Nat → Prop) (w : World) (a : Value) (hS : ∀ k, S k → k < w.heap.size) (ha : RepDes S w l a)
  (tells : ∀ (wr : World), Below w.heap.size w wr → ∀ x ∈ l, RepDe S wr x (.string x.name) (.int .i64 x.arity) → Calls Tryz.prog 86 #[.agg #[.string x.name, .int .i64 x.arity]] wr fun e w' => e = .returned (.bool (R x)) ∧ Below wr.heap.size wr w') :
  Calls Tryz.prog 85 #[a, .int .i64 least, .int .i64 most, .func (.func 86) #[] #[]] w fun e w' => e = .returned (.bool (listB least most R l)) ∧ Below w.heap.size w w' := by
 have HA := Lib.hid ha; have HT := Lib.hid tells
 obtain ⟨aa, cap, rfl⟩ := SlG.form ha
 have hlen : l.length * 24 ≤ 140737488355328 := SlG.bytes ha
 clear ha tells
 by_cases h1 : (l.length : Int) < least
 ·have HF := Lib.hid (listB_few (most := most) (R := R) h1)
  have h1' : decide ((l.length : Int) < least) = true := by simpa using h1
  go_enter Tryz.func85, Tryz.ntmps85
  go_wp2_with fail
  go_ret
  exact ⟨ret_bool HF.out.symm, Below.refl _ _⟩
 have h1' : decide ((l.length : Int) < least) = false := by simpa using h1
 by_cases h2 : most < (l.length : Int)
 ·have HF := Lib.hid (listB_many (least := least) (R := R) h2)
  have h2' : decide (most < (l.length : Int)) = true := by simpa using h2
  go_enter Tryz.func85, Tryz.ntmps85
  go_wp2_with fail
  go_ret
  exact ⟨ret_bool HF.out.symm, Below.refl _ _⟩
 have h2' : decide (most < (l.length : Int)) = false := by simpa using h2
 have HL := Lib.hid (listB_some (R := R) (show least ≤ (l.length : Int) by omega) (show (l.length : Int) ≤ most by omega))
 clear h1 h2
 go_enter Tryz.func85, Tryz.ntmps85
 go_wp2_with fail
 go_loopw [23] (fun i wr => ∃ k : Nat, k ≤ l.length ∧ i = .int .i64 k ∧ Hid (l.all R = (l.drop k).all R) ∧ Below w.heap.size w wr) (fun i _ => l.length - (intOf i).toNat)
 case atStart => exact ⟨0, Nat.zero_le _, rfl, rfl, Below.refl _ _⟩
 case round =>
  obtain ⟨k, hk, rfl, hrec, hbel⟩ := hrel
  have HB := Lib.hid hbel
  clear h1' h2'
  by_cases hl : k < l.length
  ·have hA := RepDes.on (fun _ h => h) (fun j hj => hbel.block j (hS j hj)) HA.out
   obtain ⟨-, -, b, o, rfl, -, g0, g1, g⟩ := RepDes.at hA k hl
   have G := Lib.hid g
   have HM := Lib.hid (show l[k] ∈ l from List.getElem_mem hl)
   have HD := Lib.hid (List.drop_eq_getElem_cons hl)
   clear hA g
   generalize l[k] = z at *
   have hba := below_alloc wr (.cells #[.string z.name, .int .i64 z.arity] 77)
   have HZ := Lib.hid (G.out)
   have HBA := Lib.hid (Below.step hbel hba)
   clear hbel hba
   have hen : ∀ args w, Sem.run Tryz.prog (callFunc 86 args) w = .ok (.enter 86 args) w := fun args w => by kernel_rfl
   go_wp2_with fail
   refine (HT.out _ HBA.out z HM.out  HZ.out).mono ?_
   rintro e w3 ⟨rfl, hb3⟩
   have HB3 := Lib.hid (Below.step HBA.out hb3)
   clear hb3
   cases hc : R z with
   | true =>
    have HF : Hid (l.all R = (l.drop (k + 1)).all R) := by show _ = _; rw [hrec.out, HD.out, List.all_cons, hc, Bool.true_and]
    clear hc
    go_wp2_with fail
    go_roundw
    case rel => exact ⟨k + 1, by omega, by go_num, HF, HB3.out⟩
    case measure => simp [intOf]; omega
   | false =>
    have HF : Hid (listB least most R l = false) := by show _ = _; rw [HL.out, hrec.out, HD.out, List.all_cons, hc, Bool.false_and]
    clear hc
    go_wp2_with fail
    go_ret
    exact ⟨ret_bool HF.out.symm, HB3.out⟩
  ·have HF : Hid (listB least most R l = true) := by show _ = _; rw [HL.out, hrec.out, List.drop_of_length_le (by omega)]; rfl
   go_wp2_with fail
   go_ret
   exact ⟨ret_bool HF.out.symm, HB.out⟩
set_option maxRecDepth 100000 in
set_option maxHeartbeats 1000000 in
theorem rl_facts (l : List Fa) (least most : Int) (R : Fa → Bool) (S : Nat → Prop) (w : World) (a : Value) (hS : ∀ k, S k → k < w.heap.size) (ha : RepFas S w l a)
  (tells : ∀ (wr : World), Below w.heap.size w wr → ∀ x ∈ l, ∀ (ga : Option Addr) (gc : Nat), RepFa S wr x (.string x.name) (.slice ga x.args.length gc) → Calls Tryz.prog 88 #[.agg #[.string x.name, .slice ga x.args.length gc]] wr fun e w' => e = .returned (.bool (R x)) ∧ Below wr.heap.size wr w') :
  Calls Tryz.prog 87 #[a, .int .i64 least, .int .i64 most, .func (.func 88) #[] #[]] w fun e w' => e = .returned (.bool (listB least most R l)) ∧ Below w.heap.size w w' := by
 have HA := Lib.hid ha; have HT := Lib.hid tells
 obtain ⟨aa, cap, rfl⟩ := SlG.form ha
 have hlen : l.length * 40 ≤ 140737488355328 := SlG.bytes ha
 clear ha tells
 by_cases h1 : (l.length : Int) < least
 ·have HF := Lib.hid (listB_few (most := most) (R := R) h1)
  have h1' : decide ((l.length : Int) < least) = true := by simpa using h1
  go_enter Tryz.func87, Tryz.ntmps87
  go_wp2_with fail
  go_ret
  exact ⟨ret_bool HF.out.symm, Below.refl _ _⟩
 have h1' : decide ((l.length : Int) < least) = false := by simpa using h1
 by_cases h2 : most < (l.length : Int)
 ·have HF := Lib.hid (listB_many (least := least) (R := R) h2)
  have h2' : decide (most < (l.length : Int)) = true := by simpa using h2
  go_enter Tryz.func87, Tryz.ntmps87
  go_wp2_with fail
  go_ret
  exact ⟨ret_bool HF.out.symm, Below.refl _ _⟩
 have h2' : decide (most < (l.length : Int)) = false := by simpa using h2
 have HL := Lib.hid (listB_some (R := R) (show least ≤ (l.length : Int) by omega) (show (l.length : Int) ≤ most by omega))
 clear h1 h2
 go_enter Tryz.func87, Tryz.ntmps87
 go_wp2_with fail
 go_loopw [23] (fun i wr => ∃ k : Nat, k ≤ l.length ∧ i = .int .i64 k ∧ Hid (l.all R = (l.drop k).all R) ∧ Below w.heap.size w wr) (fun i _ => l.length - (intOf i).toNat)
 case atStart => exact ⟨0, Nat.zero_le _, rfl, rfl, Below.refl _ _⟩
 case round =>
  obtain ⟨k, hk, rfl, hrec, hbel⟩ := hrel
  have HB := Lib.hid hbel
  clear h1' h2'
  by_cases hl : k < l.length
  ·have hA := RepFas.on (fun _ h => h) (fun j hj => hbel.block j (hS j hj)) HA.out
   obtain ⟨-, -, b, o, ga, gc, rfl, -, g0, g1, g⟩ := RepFas.at hA k hl
   have G := Lib.hid g
   have HM := Lib.hid (show l[k] ∈ l from List.getElem_mem hl)
   have HD := Lib.hid (List.drop_eq_getElem_cons hl)
   clear hA g
   generalize l[k] = z at *
   have hba := below_alloc wr (.cells #[.string z.name, .slice ga z.args.length gc] 70)
   have HZ := Lib.hid (RepFa.on (fun _ h => h) (fun j hj => hba.block j (Nat.lt_of_lt_of_le (hS j hj) hbel.size)) G.out)
   have HBA := Lib.hid (Below.step hbel hba)
   clear hbel hba
   have hen : ∀ args w, Sem.run Tryz.prog (callFunc 88 args) w = .ok (.enter 88 args) w := fun args w => by kernel_rfl
   go_wp2_with fail
   refine (HT.out _ HBA.out z HM.out ga gc HZ.out).mono ?_
   rintro e w3 ⟨rfl, hb3⟩
   have HB3 := Lib.hid (Below.step HBA.out hb3)
   clear hb3
   cases hc : R z with
   | true =>
    have HF : Hid (l.all R = (l.drop (k + 1)).all R) := by show _ = _; rw [hrec.out, HD.out, List.all_cons, hc, Bool.true_and]
    clear hc
    go_wp2_with fail
    go_roundw
    case rel => exact ⟨k + 1, by omega, by go_num, HF, HB3.out⟩
    case measure => simp [intOf]; omega
   | false =>
    have HF : Hid (listB least most R l = false) := by show _ = _; rw [HL.out, hrec.out, HD.out, List.all_cons, hc, Bool.false_and]
    clear hc
    go_wp2_with fail
    go_ret
    exact ⟨ret_bool HF.out.symm, HB3.out⟩
  ·have HF : Hid (listB least most R l = true) := by show _ = _; rw [HL.out, hrec.out, List.drop_of_length_le (by omega)]; rfl
   go_wp2_with fail
   go_ret
   exact ⟨ret_bool HF.out.symm, HB.out⟩
set_option maxRecDepth 100000 in
set_option maxHeartbeats 1000000 in
theorem rl_rules (l : List Ru) (least most : Int) (R : Ru → Bool) (S : Nat → Prop) (w : World) (a : Value) (hS : ∀ k, S k → k < w.heap.size) (ha : RepRus S w l a)
  (tells : ∀ (wr : World), Below w.heap.size w wr → ∀ x ∈ l, ∀ (fa : Option Addr) (fc : Nat) (ga : Option Addr) (gc : Nat), RepRu S wr x (.string x.label) (.string x.head) (.slice fa x.args.length fc) (.string x.agg) (.int .i64 x.at') (.slice ga x.body.length gc) → Calls Tryz.prog 71 #[.agg #[.string x.label, .string x.head, .slice fa x.args.length fc, .string x.agg, .int .i64 x.at', .slice ga x.body.length gc]] wr fun e w' => e = .returned (.bool (R x)) ∧ Below wr.heap.size wr w') :
  Calls Tryz.prog 89 #[a, .int .i64 least, .int .i64 most, .func (.func 71) #[] #[]] w fun e w' => e = .returned (.bool (listB least most R l)) ∧ Below w.heap.size w w' := by
 have HA := Lib.hid ha; have HT := Lib.hid tells
 obtain ⟨aa, cap, rfl⟩ := SlG.form ha
 have hlen : l.length * 104 ≤ 140737488355328 := SlG.bytes ha
 clear ha tells
 by_cases h1 : (l.length : Int) < least
 ·have HF := Lib.hid (listB_few (most := most) (R := R) h1)
  have h1' : decide ((l.length : Int) < least) = true := by simpa using h1
  go_enter Tryz.func89, Tryz.ntmps89
  go_wp2_with fail
  go_ret
  exact ⟨ret_bool HF.out.symm, Below.refl _ _⟩
 have h1' : decide ((l.length : Int) < least) = false := by simpa using h1
 by_cases h2 : most < (l.length : Int)
 ·have HF := Lib.hid (listB_many (least := least) (R := R) h2)
  have h2' : decide (most < (l.length : Int)) = true := by simpa using h2
  go_enter Tryz.func89, Tryz.ntmps89
  go_wp2_with fail
  go_ret
  exact ⟨ret_bool HF.out.symm, Below.refl _ _⟩
 have h2' : decide (most < (l.length : Int)) = false := by simpa using h2
 have HL := Lib.hid (listB_some (R := R) (show least ≤ (l.length : Int) by omega) (show (l.length : Int) ≤ most by omega))
 clear h1 h2
 go_enter Tryz.func89, Tryz.ntmps89
 go_wp2_with fail
 go_loopw [23] (fun i wr => ∃ k : Nat, k ≤ l.length ∧ i = .int .i64 k ∧ Hid (l.all R = (l.drop k).all R) ∧ Below w.heap.size w wr) (fun i _ => l.length - (intOf i).toNat)
 case atStart => exact ⟨0, Nat.zero_le _, rfl, rfl, Below.refl _ _⟩
 case round =>
  obtain ⟨k, hk, rfl, hrec, hbel⟩ := hrel
  have HB := Lib.hid hbel
  clear h1' h2'
  by_cases hl : k < l.length
  ·have hA := RepRus.on (fun _ h => h) (fun j hj => hbel.block j (hS j hj)) HA.out
   obtain ⟨-, -, b, o, fa, fc, ga, gc, rfl, -, g0, g1, g2, g3, g4, g5, g⟩ := RepRus.at hA k hl
   have G := Lib.hid g
   have HM := Lib.hid (show l[k] ∈ l from List.getElem_mem hl)
   have HD := Lib.hid (List.drop_eq_getElem_cons hl)
   clear hA g
   generalize l[k] = z at *
   have hba := below_alloc wr (.cells #[.string z.label, .string z.head, .slice fa z.args.length fc, .string z.agg, .int .i64 z.at', .slice ga z.body.length gc] 43)
   have HZ := Lib.hid (RepRu.on (fun _ h => h) (fun j hj => hba.block j (Nat.lt_of_lt_of_le (hS j hj) hbel.size)) G.out)
   have HBA := Lib.hid (Below.step hbel hba)
   clear hbel hba
   have hen : ∀ args w, Sem.run Tryz.prog (callFunc 71 args) w = .ok (.enter 71 args) w := fun args w => by kernel_rfl
   go_wp2_with fail
   refine (HT.out _ HBA.out z HM.out fa fc ga gc HZ.out).mono ?_
   rintro e w3 ⟨rfl, hb3⟩
   have HB3 := Lib.hid (Below.step HBA.out hb3)
   clear hb3
   cases hc : R z with
   | true =>
    have HF : Hid (l.all R = (l.drop (k + 1)).all R) := by show _ = _; rw [hrec.out, HD.out, List.all_cons, hc, Bool.true_and]
    clear hc
    go_wp2_with fail
    go_roundw
    case rel => exact ⟨k + 1, by omega, by go_num, HF, HB3.out⟩
    case measure => simp [intOf]; omega
   | false =>
    have HF : Hid (listB least most R l = false) := by show _ = _; rw [HL.out, hrec.out, HD.out, List.all_cons, hc, Bool.false_and]
    clear hc
    go_wp2_with fail
    go_ret
    exact ⟨ret_bool HF.out.symm, HB3.out⟩
  ·have HF : Hid (listB least most R l = true) := by show _ = _; rw [HL.out, hrec.out, List.drop_of_length_le (by omega)]; rfl
   go_wp2_with fail
   go_ret
   exact ⟨ret_bool HF.out.symm, HB.out⟩
end Go.Proofs.YtjohcnhiblfbnaaGreatDoor
