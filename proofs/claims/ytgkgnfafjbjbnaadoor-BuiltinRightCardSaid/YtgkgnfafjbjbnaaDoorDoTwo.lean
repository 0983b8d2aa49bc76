/-
  What builtin's functions do: first, last, rest.
-/
import Derived.Test.YtgkgnfafjbjbnaaDoorDo
namespace Go.Proofs.YtgkgnfafjbjbnaaDoor
open Go.RowKit

/-- What lay in w lies behind a new block too. -/
theorem RepG.new {S : Nat → Prop} {w : World} {x : V} {c0 c1 c2 c3 : Value} {o : Obj} (h : RepG S (w.alloc o) x c0 c1 c2 c3) (hS : ∀ b, S b → b < w.heap.size) (o1 : Obj) : RepV (w.alloc o1).heap.size (w.alloc o1) x c0 c1 c2 c3 :=
  RepG.on (fun b hb => by have := hS b hb; simp; omega) (fun b hb => by rw [Below.heap_alloc _ _ _ (hS b hb), Below.heap_alloc _ _ _ (hS b hb)]) x h

def firstV (x : V) : V := match x.list with | [] => zeroV | z :: _ => z
def lastV (x : V) : V := match x.list.getLast? with | none => zeroV | some z => z
def restV (x : V) : V := match x.list with | [] => zeroV | _ :: t => listV t

set_option maxRecDepth 100000 in
set_option maxHeartbeats 1000000 in
theorem first_any (x : V) (B : Nat) (w : World) (a : Value) (hB : B ≤ w.heap.size) (ha : RepL B w [x] a) :
    Calls Tryd.prog 80 #[a] w (DoPost (firstV x) w) := by
  have hb1 : Below w.heap.size w (w.alloc (.cells #[.int .i64 0, .int .i64 0, .string ⟨#[]⟩, .slice none 0 0] 24)) := (Below.refl _ w).alloc (Nat.le_refl _) _
  have HB1 := Lib.hid hb1
  obtain ⟨aa, ab, ao, ac, rfl, hac, -⟩ := id ha
  obtain ⟨-, -, b, o, fa, fc, rfl, hSb, g0, g1, g2, g3, g⟩ := RepLG.at (RepL.below (w' := (w.alloc (.cells #[.int .i64 0, .int .i64 0, .string ⟨#[]⟩, .slice none 0 0] 24))) (fun j hj => hb1.block j (by omega)) ha) 0 (by simp)
  simp only [List.getElem_cons_zero, Nat.zero_mul, Nat.add_zero] at g0 g1 g2 g3 g
  have gl := g.lst
  have hlen : x.list.length * 56 ≤ 140737488355328 := by obtain ⟨_, _, _, _, _, _, h, _⟩ := gl; exact h
  match hl : x.list with
  | [] =>
    have HE : Hid (firstV x = zeroV) := by show _ = _; rw [firstV, hl]
    rw [hl] at g3
    clear ha g gl hb1 hl
    go_enter Tryd.func80, Tryd.ntmps80
    go_wp2_with fail
    refine bodyPost_ret (v := .agg #[.int .i64 0, .int .i64 0, .string ⟨#[]⟩, .slice none 0 0]) (by simp [results, Tryd.results80, go_sem]) rfl ?_
    rw [HE.out]
    exact ⟨_, _, _, _, rfl, rep_zero, (Below.refl _ w).alloc (Nat.le_refl _) _⟩
  | z :: t =>
    have HE : Hid (firstV x = z) := by show _ = _; rw [firstV, hl]
    rw [hl] at g3 gl hlen
    obtain ⟨-, -, b', o', fa', fc', rfl, hSb', e0, e1, e2, e3, g'⟩ := RepLG.at gl 0 (by simp)
    simp only [List.getElem_cons_zero, Nat.zero_mul, Nat.add_zero] at e0 e1 e2 e3 g'
    have HG := Lib.hid g'
    have hne : (((z :: t).length : Int) == 0) = false := beq_eq_false_iff_ne.2 (by simp; omega)
    have hpos : 0 < (z :: t).length := by simp
    generalize (z :: t).length = len at *
    clear ha g gl hb1 hl g'
    go_enter Tryd.func80, Tryd.ntmps80
    go_wp2_with fail
    refine bodyPost_ret (v := .agg #[.int .i64 z.kind, .int .i64 z.num, .string z.text, .slice fa' z.list.length fc']) (by simp [results, Tryd.results80, go_sem]) rfl ?_
    rw [HE.out]
    exact ⟨_, _, _, _, rfl, RepG.new HG.out (fun b hb => Nat.lt_of_lt_of_le hb hB) _, (Below.refl _ w).alloc (Nat.le_refl _) _⟩

set_option maxRecDepth 100000 in
set_option maxHeartbeats 1000000 in
theorem last_any (x : V) (B : Nat) (w : World) (a : Value) (hB : B ≤ w.heap.size) (ha : RepL B w [x] a) :
    Calls Tryd.prog 81 #[a] w (DoPost (lastV x) w) := by
  have hb1 : Below w.heap.size w (w.alloc (.cells #[.int .i64 0, .int .i64 0, .string ⟨#[]⟩, .slice none 0 0] 24)) := (Below.refl _ w).alloc (Nat.le_refl _) _
  have HB1 := Lib.hid hb1
  obtain ⟨aa, ab, ao, ac, rfl, hac, -⟩ := id ha
  obtain ⟨-, -, b, o, fa, fc, rfl, hSb, g0, g1, g2, g3, g⟩ := RepLG.at (RepL.below (w' := (w.alloc (.cells #[.int .i64 0, .int .i64 0, .string ⟨#[]⟩, .slice none 0 0] 24))) (fun j hj => hb1.block j (by omega)) ha) 0 (by simp)
  simp only [List.getElem_cons_zero, Nat.zero_mul, Nat.add_zero] at g0 g1 g2 g3 g
  have gl := g.lst
  have hlen : x.list.length * 56 ≤ 140737488355328 := by obtain ⟨_, _, _, _, _, _, h, _⟩ := gl; exact h
  by_cases hz : x.list.length = 0
  · have HE : Hid (lastV x = zeroV) := by show _ = _; rw [lastV, List.length_eq_zero_iff.1 hz]; rfl
    rw [hz] at g3
    clear ha g gl hb1 hz
    go_enter Tryd.func81, Tryd.ntmps81
    go_wp2_with fail
    refine bodyPost_ret (v := .agg #[.int .i64 0, .int .i64 0, .string ⟨#[]⟩, .slice none 0 0]) (by simp [results, Tryd.results81, go_sem]) rfl ?_
    rw [HE.out]
    exact ⟨_, _, _, _, rfl, rep_zero, (Below.refl _ w).alloc (Nat.le_refl _) _⟩
  · have hn1 : x.list.length - 1 < x.list.length := by omega
    have HE : Hid (lastV x = x.list[x.list.length - 1]) := by
      show _ = _
      rw [lastV, List.getLast?_eq_getElem?, List.getElem?_eq_getElem hn1]
    obtain ⟨-, -, b', o', fa', fc', rfl, hSb', e0, e1, e2, e3, g'⟩ := RepLG.at gl (x.list.length - 1) hn1
    generalize x.list[x.list.length - 1] = z at *
    have HG := Lib.hid g'
    obtain ⟨len, hlen2⟩ : ∃ len, x.list.length = len + 1 := ⟨x.list.length - 1, by omega⟩
    rw [hlen2] at g3 e0 e1 e2 e3 hlen
    simp only [Nat.add_sub_cancel] at e0 e1 e2 e3
    have hne : (((len + 1 : Nat) : Int) == 0) = false := beq_eq_false_iff_ne.2 (by omega)
    have hne2 : ((len : Int) + 1 == 0) = false := beq_eq_false_iff_ne.2 (by omega)
    clear ha g gl hb1 hz g' hlen2 hn1
    go_enter Tryd.func81, Tryd.ntmps81
    go_wp2_with fail
    refine bodyPost_ret (v := .agg #[.int .i64 z.kind, .int .i64 z.num, .string z.text, .slice fa' z.list.length fc']) (by simp [results, Tryd.results81, go_sem]) rfl ?_
    rw [HE.out]
    exact ⟨_, _, _, _, rfl, RepG.new HG.out (fun b hb => Nat.lt_of_lt_of_le hb hB) _, (Below.refl _ w).alloc (Nat.le_refl _) _⟩

set_option maxRecDepth 100000 in
set_option maxHeartbeats 1000000 in
theorem rest_any (x : V) (B : Nat) (w : World) (a : Value) (hB : B ≤ w.heap.size) (ha : RepL B w [x] a) :
    Calls Tryd.prog 82 #[a] w (DoPost (restV x) w) := by
  have hb1 : Below w.heap.size w (w.alloc (.cells #[.int .i64 0, .int .i64 0, .string ⟨#[]⟩, .slice none 0 0] 24)) := (Below.refl _ w).alloc (Nat.le_refl _) _
  have HX := Lib.hid (boxed_new w (.int .i64 0) (.int .i64 0) (.string ⟨#[]⟩) (.slice none 0 0))
  have HB1 := Lib.hid hb1
  obtain ⟨aa, ab, ao, ac, rfl, hac, -⟩ := id ha
  obtain ⟨-, -, b, o, fa, fc, rfl, hSb, g0, g1, g2, g3, g⟩ := RepLG.at (RepL.below (w' := (w.alloc (.cells #[.int .i64 0, .int .i64 0, .string ⟨#[]⟩, .slice none 0 0] 24))) (fun j hj => hb1.block j (by omega)) ha) 0 (by simp)
  simp only [List.getElem_cons_zero, Nat.zero_mul, Nat.add_zero] at g0 g1 g2 g3 g
  have gl := g.lst
  have hlen : x.list.length * 56 ≤ 140737488355328 := by obtain ⟨_, _, _, _, _, _, h, _⟩ := gl; exact h
  match hl : x.list with
  | [] =>
    have HE : Hid (restV x = zeroV) := by show _ = _; rw [restV, hl]
    rw [hl] at g3
    clear ha g gl hb1 hl HX
    go_enter Tryd.func82, Tryd.ntmps82
    go_wp2_with fail
    refine bodyPost_ret (v := .agg #[.int .i64 0, .int .i64 0, .string ⟨#[]⟩, .slice none 0 0]) (by simp [results, Tryd.results82, go_sem]) rfl ?_
    rw [HE.out]
    exact ⟨_, _, _, _, rfl, rep_zero, (Below.refl _ w).alloc (Nat.le_refl _) _⟩
  | z :: t =>
    have HE : Hid (restV x = listV t) := by show _ = _; rw [restV, hl]
    rw [hl] at g3 gl hlen
    obtain ⟨-, hcap, b', o', -, -, rfl, -⟩ := RepLG.at gl 0 (by simp)
    have HG := Lib.hid gl.behind
    have hne : (((z :: t).length : Int) == 0) = false := beq_eq_false_iff_ne.2 (by simp; omega)
    have hne2 : ((t.length : Int) + 1 == 0) = false := beq_eq_false_iff_ne.2 (by omega)
    simp only [List.length_cons] at g3 hne hcap hlen
    clear ha g gl hb1 hl
    have finish : ∀ (w2 : World) (a' : Option Addr) (n' c' : Nat), Below ((w.alloc (.cells #[.int .i64 0, .int .i64 0, .string ⟨#[]⟩, .slice none 0 0] 24))).heap.size (w.alloc (.cells #[.int .i64 0, .int .i64 0, .string ⟨#[]⟩, .slice none 0 0] 24)) w2 → RepLG (fun b => b < B) (w.alloc (.cells #[.int .i64 0, .int .i64 0, .string ⟨#[]⟩, .slice none 0 0] 24)) t (.slice a' n' c') → DoPost (restV x) w (.returned (.agg #[.int .i64 4, .int .i64 0, .string ⟨#[]⟩, .slice a' n' c'])) ((((w2.setCell ⟨w.heap.size, 0, none⟩ (.int .i64 4)).setCell ⟨w.heap.size, 1, none⟩ (.int .i64 0)).setCell ⟨w.heap.size, 2, none⟩ (.string ⟨#[]⟩)).setCell ⟨w.heap.size, 3, none⟩ (.slice a' n' c')) := by
      intro w2 a' n' c' hb hr
      rw [HE.out]
      exact ⟨_, _, _, _, rfl, RepG.past4 (rep_list (hr.on (fun _ h => h) (fun k hk => hb.block k (by simp; omega)))) _ (by omega) (fun b h => by have := hb.size; simp at this; omega) _ _ _ _, stored4 (Below.step HB1.out hb) _ (Nat.le_refl _) _ _ _ _⟩
    have HF := Lib.hid finish
    clear finish
    by_cases hc : fc = 1
    · have ht : t = [] := List.length_eq_zero_iff.1 (by omega)
      subst ht
      subst hc
      clear hlen hcap
      simp only [List.length_nil, Nat.zero_add] at g3 hne hne2
      go_enter Tryd.func82, Tryd.ntmps82
      go_wp2_with fail
      refine (sharing_any _ _ _ _).mono ?_
      rintro e w2 ⟨rfl, hb⟩
      have X2 := HX.out.on hb
      obtain ⟨r0, r1, r2, r3⟩ := X2.cells
      have z0 := frozen_of_row w2 _ 0 _ _ X2
      have z1 := frozen_of_row w2 _ 1 _ _ X2
      have z2 := frozen_of_row w2 _ 2 _ _ X2
      have z3 := frozen_of_row w2 _ 3 _ _ X2
      have HBB := Lib.hid hb
      clear g0 g1 g2 g3 X2 hb
      go_wp2_with fail
      refine bodyPost_ret (by simp [results, Tryd.results82, go_sem, r0, r1, r2, r3]; rfl) rfl ?_
      refine HF.out _ _ _ _ HBB.out ?_
      exact ⟨_, 0, 0, _, rfl, Nat.zero_le _, by simp, fun h => by omega, fun h => by simp at h, fun i hi => by simp at hi⟩
    · have hc1 : 1 < fc := by omega
      have HC := Lib.hid hc; clear hc
      go_enter Tryd.func82, Tryd.ntmps82
      go_wp2_with fail
      refine (sharing_any _ _ _ _).mono ?_
      rintro e w2 ⟨rfl, hb⟩
      have X2 := HX.out.on hb
      obtain ⟨r0, r1, r2, r3⟩ := X2.cells
      have z0 := frozen_of_row w2 _ 0 _ _ X2
      have z1 := frozen_of_row w2 _ 1 _ _ X2
      have z2 := frozen_of_row w2 _ 2 _ _ X2
      have z3 := frozen_of_row w2 _ 3 _ _ X2
      have HBB := Lib.hid hb
      clear g0 g1 g2 g3 X2 hb
      go_wp2_with fail
      refine bodyPost_ret (by simp [results, Tryd.results82, go_sem, r0, r1, r2, r3]; rfl) rfl ?_
      exact HF.out _ _ _ _ HBB.out HG.out

end Go.Proofs.YtgkgnfafjbjbnaaDoor
