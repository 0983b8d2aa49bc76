/-
  WLines
-/
import Derived.Test.YtgjemmdhamkngaaGreatDoorK15
import Derived.Test.YtgjemmdhamkngaaGreatDoorK18
namespace Go.Proofs.YtgjemmdhamkngaaGreatDoor
open Go.RowKit
set_option maxHeartbeats 2000000 in
set_option maxRecDepth 100000 in
theorem pw.string_none (B b : Nat) (w : World) (hBw : B ≤ w.heap.size) (h : Lib.IsBuilderF 108 5 B b (Lib.byteCells []) w) :
  Calls Tryz.prog 76 #[.pointer (some ⟨b, 0, none⟩)] w fun e w' => e = .returned (.string ⟨#[]⟩) ∧ Below B w w' := by
 have hUS : ∀ (W : World) (q : Option Addr), (Builtin.unsafeString_ #[128, 3] 9 #[.pointer q, .int .i64 0]).run Tryz.prog W = .ok (.string .empty) W := fun W q => Lib.run_unsafeString_none W _ _ _ q
 obtain ⟨p, hAt⟩ : ∃ p, Lib.BuilderAtF 108 5 B b p (Lib.byteCells []) w := by
  rcases h with h | h
  ·exact ⟨_, h⟩
  ·exact ⟨_, h⟩
 obtain ⟨hB, v, hbk, hown, hne⟩ := hAt
 have hlt : b < w.heap.size := (Array.getElem?_eq_some_iff.1 hbk).1
 have mixed : Tryz.prog.follows .mixedOrders = true := by kernel_rfl
 rcases hown.2 with ⟨rfl, -⟩ | ⟨g, cap, cur, fz, rfl, hbg, hg, -⟩
 ·have c1 : w.drew.cell? ⟨b, 1, none⟩ = some (.slice none 0 0) := by
   have : w.drew.heap[b]? = some (.cells #[p, .slice none 0 0] 108 (0, 0)) := hbk
   rw [Lib.cell_of_heap this]; rfl
  have hSD : (Builtin.unsafeSliceData_ #[104] 128 #[.slice none 0 0]).run Tryz.prog w.drew = .ok (.pointer none) w.drew := rfl
  clear hown hne hbk
  go_enter Tryz.func76, Tryz.ntmps76
  go_wp2
  go_region_o
  all_goals (go_wp2; go_ret; exact ⟨rfl, Below.drew (Below.refl B w)⟩)
 ·by_cases hc0 : cap = 0
  ·subst hc0
   have hbk' : w.heap[b]? = some (.cells #[p, .slice (some ⟨g, 0, none⟩) 0 0] 108 (0, 0)) := hbk
   have c1 : w.drew.cell? ⟨b, 1, none⟩ = some (.slice (some ⟨g, 0, none⟩) 0 0) := by
    have : w.drew.heap[b]? = some (.cells #[p, .slice (some ⟨g, 0, none⟩) 0 0] 108 (0, 0)) := hbk'
    rw [Lib.cell_of_heap this]; rfl
   have hSD : (Builtin.unsafeSliceData_ #[104] 128 #[.slice (some ⟨g, 0, none⟩) 0 0]).run Tryz.prog w.drew = .ok (.pointer (some ⟨w.drew.heap.size, 0, none⟩)) (w.drew.alloc (.view ⟨g, 0, none⟩ 5)) :=
    Lib.run_unsafeSliceData_zero w.drew _ _ 5 Tryz.underlying128 ⟨g, 0, none⟩ 0 (5, cur.size) (by have hg' : w.drew.heap[g]? = some (.cells cur 5 fz) := hg; simp [World.shape?, hg'])
   have c2 : (w.drew.alloc (.view ⟨g, 0, none⟩ 5)).cell? ⟨b, 1, none⟩ = some (.slice (some ⟨g, 0, none⟩) 0 0) := by
    have : (w.drew.alloc (.view ⟨g, 0, none⟩ 5)).heap[b]? = _ := (Lib.alloc_old w.drew _ b hlt).trans hbk'
    rw [Lib.cell_of_heap this]; rfl
   have c3 : (w.alloc (.view ⟨g, 0, none⟩ 5)).drew.cell? ⟨b, 1, none⟩ = some (.slice (some ⟨g, 0, none⟩) 0 0) := c2
   have c0 : w.cell? ⟨b, 1, none⟩ = some (.slice (some ⟨g, 0, none⟩) 0 0) := c1
   clear hown hne hbk hbk' hg hbg
   go_enter Tryz.func76, Tryz.ntmps76
   go_wp2
   go_region_o
   all_goals (go_wp2; go_ret; exact ⟨rfl, (Below.drew (Below.refl B w)).alloc hBw _⟩)
  ·have hbk' : w.heap[b]? = some (.cells #[p, .slice (some ⟨g, 0, none⟩) 0 cap] 108 (0, 0)) := hbk
   have c1 : w.drew.cell? ⟨b, 1, none⟩ = some (.slice (some ⟨g, 0, none⟩) 0 cap) := by
    have : w.drew.heap[b]? = some (.cells #[p, .slice (some ⟨g, 0, none⟩) 0 cap] 108 (0, 0)) := hbk'
    rw [Lib.cell_of_heap this]; rfl
   have hSD : (Builtin.unsafeSliceData_ #[104] 128 #[.slice (some ⟨g, 0, none⟩) 0 cap]).run Tryz.prog w.drew = .ok (.pointer (some ⟨g, 0, none⟩)) w.drew :=
    Lib.run_unsafeSliceData_row _ _ _ _ _ _ hc0
   clear hown hne hbk hbk' hg hbg
   go_enter Tryz.func76, Tryz.ntmps76
   go_wp2
   go_region_o
   all_goals (go_wp2; go_ret; exact ⟨rfl, Below.drew (Below.refl B w)⟩)
theorem pw.string_any (B b : Nat) (l : List UInt8) (w : World) (hBw : B ≤ w.heap.size) (h : Lib.IsBuilderF 108 5 B b (Lib.byteCells l) w) :
  Calls Tryz.prog 76 #[.pointer (some ⟨b, 0, none⟩)] w fun e w' => e = .returned (.string ⟨l.toArray⟩) ∧ Below B w w' := by
 cases l with
 | nil => exact pw.string_none B b w hBw h
 | cons x l => exact pw.string_some B b (x :: l) w h (by simp)
theorem linesOf_snoc (l : List (List UInt8)) (t : List UInt8) : linesOf (l ++ [t]) = linesOf l ++ (t ++ [10]) := by simp [linesOf]
theorem linesOf_take_le (l : List (List UInt8)) (k : Nat) : (linesOf (l.take k)).length ≤ (linesOf l).length := by
 induction l generalizing k with
 | nil => simp
 | cons x l ih =>
  cases k with
  | zero => simp [linesOf]
  | succ k =>
   have := ih k
   simp only [linesOf, List.take_succ_cons, List.map_cons, List.flatten_cons, List.length_append] at this ⊢
   omega
set_option maxRecDepth 100000 in
set_option maxHeartbeats 2000000 in
theorem lines_De (l : List De) (S : Nat → Prop) (B b : Nat) (acc : List UInt8) (w : World) (a : Value) (hS : ∀ k, S k → k < B) (hB : B ≤ w.heap.size) (hg : 0 < B) (htab : TabOk w) (ha : RepDes S w l a)
  (hbu : Lib.IsBuilderF 108 5 B b (Lib.byteCells acc) w) (hlen : acc.length + (linesOf (l.map showDe)).length ≤ 140737488355328) :
  Calls Tryz.prog 77 #[.pointer (some ⟨b, 0, none⟩), a, .func (.func 78) #[] #[]] w fun e w' => e = .returned (.tuple #[]) ∧ pw.Wrote B b (acc ++ linesOf (l.map showDe)) w w' := by
 have HA := Lib.hid ha; have HTB := Lib.hid htab; have HLEN := Lib.hid hlen
 have W0 := Lib.hid (pw.Wrote.start hbu hB (Below.refl _ w))
 have hbytes := SlG.bytes ha
 obtain ⟨aa, cap, rfl⟩ := SlG.form ha
 clear ha htab hbu hlen
 go_enter Tryz.func77, Tryz.ntmps77
 go_wp2_with fail
 go_loopw [10] (fun i wx => ∃ k : Nat, k ≤ l.length ∧ i = .int .i64 k ∧ Hid (pw.Wrote B b (acc ++ linesOf ((l.map showDe).take k)) w wx)) (fun i _ => l.length - (intOf i).toNat)
 case atStart => exact ⟨0, Nat.zero_le _, rfl, by show pw.Wrote _ _ _ _ _; simpa [linesOf] using W0.out⟩
 case round =>
  obtain ⟨k, hk, rfl, HW⟩ := hrel
  by_cases hl : k < l.length
  ·have hA := RepDes.on (fun _ h => h) (fun j hj => HW.out.2.1.block j (hS j hj)) HA.out
   obtain ⟨-, hcap, lb, lo, rfl, -, g0, g1, g⟩ := RepDes.at hA k hl
   have G := Lib.hid g
   have hts : (l.map showDe).take (k + 1) = (l.map showDe).take k ++ [showDe l[k]] := by rw [List.take_succ_eq_append_getElem (by rw [List.length_map]; exact hl), List.getElem_map]
   have hle := linesOf_take_le (l.map showDe) (k + 1)
   rw [hts, linesOf_snoc] at hle
   have HX : Hid (linesOf ((l.map showDe).take (k + 1)) = linesOf ((l.map showDe).take k) ++ (showDe l[k] ++ [10])) := by show _ = _; rw [hts, linesOf_snoc]
   have HLN : Hid ((acc ++ linesOf ((l.map showDe).take k)).length + (showDe l[k]).length + 1 ≤ 140737488355328) := by
    show _ ≤ _
    have := HLEN.out
    simp only [List.length_append, List.length_cons, List.length_nil] at hle ⊢
    omega
   clear hA g hts hle
   generalize l[k] = z at *
   have HBR := Lib.hid (Nat.le_trans hB HW.out.2.1.size)
   have hba := below_alloc wr (.cells #[.string z.name, .int .i64 z.arity] 57)
   have HZ := Lib.hid (G.out)
   have W1 := Lib.hid (HW.out.trans (pw.Wrote.start HW.out.1 HBR.out hba))
   have hs1 := Nat.le_trans HBR.out hba.size
   have HS1 := Lib.hid hs1
   clear hba hs1
   have hen : ∀ args w, Sem.run Tryz.prog (callFunc 78 args) w = .ok (.enter 78 args) w := fun args w => by kernel_rfl
   go_wp2_with fail
   refine (wdecl_any z S B b _ _ _ _ hS HS1.out hg (TabOk.below HTB.out hg W1.out.2.1) HZ.out W1.out.1 (by have := HLN.out; omega)).mono ?_
   rintro e w3 ⟨rfl, W⟩
   have W3 := Lib.hid (W1.out.trans W)
   clear W
   go_wp2_with fail
   refine (pw.wbyte B b _ 10 _ W3.out.1 (by have h := HLN.out; simp only [List.length_append] at h ⊢; omega) (Nat.le_trans hB W3.out.2.1.size)).mono ?_
   rintro e w4 ⟨rfl, W⟩
   have W4 := Lib.hid (W3.out.trans W)
   clear W
   go_wp2_with fail
   go_roundw
   case rel => exact ⟨k + 1, by omega, by go_num, by show pw.Wrote _ _ _ _ _; rw [HX.out]; simpa [List.append_assoc] using W4.out⟩
   case measure => simp [intOf]; omega
  ·have HF : Hid ((l.map showDe).take k = l.map showDe) := List.take_of_length_le (by rw [List.length_map]; omega)
   rw [HF.out] at HW
   go_wp2_with fail
   go_end0
   exact ⟨rfl, HW.out⟩
set_option maxRecDepth 100000 in
set_option maxHeartbeats 2000000 in
theorem lines_Fa (l : List Fa) (S : Nat → Prop) (B b : Nat) (acc : List UInt8) (w : World) (a : Value) (hS : ∀ k, S k → k < B) (hB : B ≤ w.heap.size) (hg : 0 < B) (htab : TabOk w) (ha : RepFas S w l a)
  (hbu : Lib.IsBuilderF 108 5 B b (Lib.byteCells acc) w) (hlen : acc.length + (linesOf (l.map showFa)).length ≤ 140737488355328) :
  Calls Tryz.prog 79 #[.pointer (some ⟨b, 0, none⟩), a, .func (.func 43) #[] #[]] w fun e w' => e = .returned (.tuple #[]) ∧ pw.Wrote B b (acc ++ linesOf (l.map showFa)) w w' := by
 have HA := Lib.hid ha; have HTB := Lib.hid htab; have HLEN := Lib.hid hlen
 have W0 := Lib.hid (pw.Wrote.start hbu hB (Below.refl _ w))
 have hbytes := SlG.bytes ha
 obtain ⟨aa, cap, rfl⟩ := SlG.form ha
 clear ha htab hbu hlen
 go_enter Tryz.func79, Tryz.ntmps79
 go_wp2_with fail
 go_loopw [10] (fun i wx => ∃ k : Nat, k ≤ l.length ∧ i = .int .i64 k ∧ Hid (pw.Wrote B b (acc ++ linesOf ((l.map showFa).take k)) w wx)) (fun i _ => l.length - (intOf i).toNat)
 case atStart => exact ⟨0, Nat.zero_le _, rfl, by show pw.Wrote _ _ _ _ _; simpa [linesOf] using W0.out⟩
 case round =>
  obtain ⟨k, hk, rfl, HW⟩ := hrel
  by_cases hl : k < l.length
  ·have hA := RepFas.on (fun _ h => h) (fun j hj => HW.out.2.1.block j (hS j hj)) HA.out
   obtain ⟨-, hcap, lb, lo, ga, gc, rfl, -, g0, g1, g⟩ := RepFas.at hA k hl
   have G := Lib.hid g
   have hts : (l.map showFa).take (k + 1) = (l.map showFa).take k ++ [showFa l[k]] := by rw [List.take_succ_eq_append_getElem (by rw [List.length_map]; exact hl), List.getElem_map]
   have hle := linesOf_take_le (l.map showFa) (k + 1)
   rw [hts, linesOf_snoc] at hle
   have HX : Hid (linesOf ((l.map showFa).take (k + 1)) = linesOf ((l.map showFa).take k) ++ (showFa l[k] ++ [10])) := by show _ = _; rw [hts, linesOf_snoc]
   have HLN : Hid ((acc ++ linesOf ((l.map showFa).take k)).length + (showFa l[k]).length + 1 ≤ 140737488355328) := by
    show _ ≤ _
    have := HLEN.out
    simp only [List.length_append, List.length_cons, List.length_nil] at hle ⊢
    omega
   clear hA g hts hle
   generalize l[k] = z at *
   have HBR := Lib.hid (Nat.le_trans hB HW.out.2.1.size)
   have hba := below_alloc wr (.cells #[.string z.name, .slice ga z.args.length gc] 33)
   have HZ := Lib.hid (RepFa.on (fun _ h => h) (fun k hk => hba.block k (Nat.lt_of_lt_of_le (hS k hk) HBR.out)) G.out)
   have W1 := Lib.hid (HW.out.trans (pw.Wrote.start HW.out.1 HBR.out hba))
   have hs1 := Nat.le_trans HBR.out hba.size
   have HS1 := Lib.hid hs1
   clear hba hs1
   have hen : ∀ args w, Sem.run Tryz.prog (callFunc 43 args) w = .ok (.enter 43 args) w := fun args w => by kernel_rfl
   go_wp2_with fail
   refine (wtuple_any z S B b _ _ _ _ hS HS1.out hg (TabOk.below HTB.out hg W1.out.2.1) HZ.out W1.out.1 (by have := HLN.out; omega)).mono ?_
   rintro e w3 ⟨rfl, W⟩
   have W3 := Lib.hid (W1.out.trans W)
   clear W
   go_wp2_with fail
   refine (pw.wbyte B b _ 10 _ W3.out.1 (by have h := HLN.out; simp only [List.length_append] at h ⊢; omega) (Nat.le_trans hB W3.out.2.1.size)).mono ?_
   rintro e w4 ⟨rfl, W⟩
   have W4 := Lib.hid (W3.out.trans W)
   clear W
   go_wp2_with fail
   go_roundw
   case rel => exact ⟨k + 1, by omega, by go_num, by show pw.Wrote _ _ _ _ _; rw [HX.out]; simpa [List.append_assoc] using W4.out⟩
   case measure => simp [intOf]; omega
  ·have HF : Hid ((l.map showFa).take k = l.map showFa) := List.take_of_length_le (by rw [List.length_map]; omega)
   rw [HF.out] at HW
   go_wp2_with fail
   go_end0
   exact ⟨rfl, HW.out⟩
set_option maxRecDepth 100000 in
set_option maxHeartbeats 2000000 in
theorem lines_Ru (l : List Ru) (hr : ∀ y ∈ l, ruB y = true) (S : Nat → Prop) (B b : Nat) (acc : List UInt8) (w : World) (a : Value) (hS : ∀ k, S k → k < B) (hB : B ≤ w.heap.size) (hg : 0 < B) (htab : TabOk w) (ha : RepRus S w l a)
  (hbu : Lib.IsBuilderF 108 5 B b (Lib.byteCells acc) w) (hlen : acc.length + (linesOf (l.map showRu)).length ≤ 140737488355328) :
  Calls Tryz.prog 80 #[.pointer (some ⟨b, 0, none⟩), a, .func (.func 46) #[] #[]] w fun e w' => e = .returned (.tuple #[]) ∧ pw.Wrote B b (acc ++ linesOf (l.map showRu)) w w' := by
 have HA := Lib.hid ha; have HTB := Lib.hid htab; have HLEN := Lib.hid hlen
 have W0 := Lib.hid (pw.Wrote.start hbu hB (Below.refl _ w))
 have hbytes := SlG.bytes ha
 obtain ⟨aa, cap, rfl⟩ := SlG.form ha
 have HRL := Lib.hid hr
 clear hr
 clear ha htab hbu hlen
 go_enter Tryz.func80, Tryz.ntmps80
 go_wp2_with fail
 go_loopw [10] (fun i wx => ∃ k : Nat, k ≤ l.length ∧ i = .int .i64 k ∧ Hid (pw.Wrote B b (acc ++ linesOf ((l.map showRu).take k)) w wx)) (fun i _ => l.length - (intOf i).toNat)
 case atStart => exact ⟨0, Nat.zero_le _, rfl, by show pw.Wrote _ _ _ _ _; simpa [linesOf] using W0.out⟩
 case round =>
  obtain ⟨k, hk, rfl, HW⟩ := hrel
  by_cases hl : k < l.length
  ·have hA := RepRus.on (fun _ h => h) (fun j hj => HW.out.2.1.block j (hS j hj)) HA.out
   obtain ⟨-, hcap, lb, lo, fa, fc, ga, gc, rfl, -, g0, g1, g2, g3, g4, g5, g⟩ := RepRus.at hA k hl
   have G := Lib.hid g
   have hts : (l.map showRu).take (k + 1) = (l.map showRu).take k ++ [showRu l[k]] := by rw [List.take_succ_eq_append_getElem (by rw [List.length_map]; exact hl), List.getElem_map]
   have hle := linesOf_take_le (l.map showRu) (k + 1)
   rw [hts, linesOf_snoc] at hle
   have HX : Hid (linesOf ((l.map showRu).take (k + 1)) = linesOf ((l.map showRu).take k) ++ (showRu l[k] ++ [10])) := by show _ = _; rw [hts, linesOf_snoc]
   have HLN : Hid ((acc ++ linesOf ((l.map showRu).take k)).length + (showRu l[k]).length + 1 ≤ 140737488355328) := by
    show _ ≤ _
    have := HLEN.out
    simp only [List.length_append, List.length_cons, List.length_nil] at hle ⊢
    omega
   have HZR := Lib.hid (HRL.out _ (List.getElem_mem hl))
   clear hA g hts hle
   generalize l[k] = z at *
   have HBR := Lib.hid (Nat.le_trans hB HW.out.2.1.size)
   have hba := below_alloc wr (.cells #[.string z.label, .string z.head, .slice fa z.args.length fc, .string z.agg, .int .i64 z.at', .slice ga z.body.length gc] 37)
   have HZ := Lib.hid (RepRu.on (fun _ h => h) (fun k hk => hba.block k (Nat.lt_of_lt_of_le (hS k hk) HBR.out)) G.out)
   have W1 := Lib.hid (HW.out.trans (pw.Wrote.start HW.out.1 HBR.out hba))
   have hs1 := Nat.le_trans HBR.out hba.size
   have HS1 := Lib.hid hs1
   clear hba hs1
   have hen : ∀ args w, Sem.run Tryz.prog (callFunc 46 args) w = .ok (.enter 46 args) w := fun args w => by kernel_rfl
   go_wp2_with fail
   refine (wrule_any z S B b _ _ _ _ _ _ _ _ hS HS1.out hg (TabOk.below HTB.out hg W1.out.2.1) HZ.out W1.out.1 HZR.out (by have := HLN.out; omega)).mono ?_
   rintro e w3 ⟨rfl, W⟩
   have W3 := Lib.hid (W1.out.trans W)
   clear W
   go_wp2_with fail
   refine (pw.wbyte B b _ 10 _ W3.out.1 (by have h := HLN.out; simp only [List.length_append] at h ⊢; omega) (Nat.le_trans hB W3.out.2.1.size)).mono ?_
   rintro e w4 ⟨rfl, W⟩
   have W4 := Lib.hid (W3.out.trans W)
   clear W
   go_wp2_with fail
   go_roundw
   case rel => exact ⟨k + 1, by omega, by go_num, by show pw.Wrote _ _ _ _ _; rw [HX.out]; simpa [List.append_assoc] using W4.out⟩
   case measure => simp [intOf]; omega
  ·have HF : Hid ((l.map showRu).take k = l.map showRu) := List.take_of_length_le (by rw [List.length_map]; omega)
   rw [HF.out] at HW
   go_wp2_with fail
   go_end0
   exact ⟨rfl, HW.out⟩
end Go.Proofs.YtgjemmdhamkngaaGreatDoor
