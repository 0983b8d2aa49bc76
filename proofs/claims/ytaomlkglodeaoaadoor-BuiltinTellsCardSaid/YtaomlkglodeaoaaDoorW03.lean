/-
  What builtin's functions do, one by one: size, first, last, rest.
-/
import Derived.Test.YtaomlkglodeaoaaDoorW02
import Derived.StillTailTactics
namespace Go.Proofs.YtaomlkglodeaoaaDoor
open Go.RowKit

def zeroV : V := .mk 0 0 ⟨#[]⟩ []
def listV (l : List V) : V := .mk 4 0 ⟨#[]⟩ l
def numV (n : Int) : V := .mk 1 n ⟨#[]⟩ []
theorem rep_list {S : Nat → Prop} {w : World} {l : List V} {r : Value} (h : RepLG S w l r) : RepG S w (listV l) (.int .i64 4) (.int .i64 0) (.string ⟨#[]⟩) r :=
  repG_mk.2 ⟨rfl, rfl, rfl, ⟨by omega, by omega⟩, ⟨by omega, by omega⟩, by unfold maxLen; simp [ByteArray.size], h⟩
theorem rep_nil {S : Nat → Prop} {w : World} : RepLG S w [] (.slice none 0 0) := ⟨none, 0, 0, 0, rfl, Nat.le_refl _, by simp, fun h => by omega, fun h => by simp at h, fun i hi => by simp at hi⟩
theorem rep_zero {S : Nat → Prop} {w : World} : RepG S w zeroV (.int .i64 0) (.int .i64 0) (.string ⟨#[]⟩) (.slice none 0 0) :=
  repG_mk.2 ⟨rfl, rfl, rfl, ⟨by omega, by omega⟩, ⟨by omega, by omega⟩, by unfold maxLen; simp [ByteArray.size], rep_nil⟩
theorem rep_num {S : Nat → Prop} {w : World} {n : Int} (h : I64 n) : RepG S w (numV n) (.int .i64 1) (.int .i64 n) (.string ⟨#[]⟩) (.slice none 0 0) :=
  repG_mk.2 ⟨rfl, rfl, rfl, ⟨by omega, by omega⟩, h, by unfold maxLen; simp [ByteArray.size], rep_nil⟩

/-- A value comes out, and all that lay there stands. -/
def DoPost (x : V) (w : World) (e : Ending) (w' : World) : Prop := ∃ c0 c1 c2 c3, e = .returned (.agg #[c0, c1, c2, c3]) ∧ RepV w'.heap.size w' x c0 c1 c2 c3 ∧ Below w.heap.size w w'

/-- The cells of one element. -/
theorem RepLG.at {S : Nat → Prop} {w : World} {l : List V} {a : Option Addr} {n cap : Nat} (h : RepLG S w l (.slice a n cap)) (i : Nat) (hi : i < l.length) :
    n = l.length ∧ l.length ≤ cap ∧ ∃ b o fa fc, a = some ⟨b, o, none⟩ ∧ S b ∧ w.cell? ⟨b, o + i * 4, none⟩ = some (.int .i64 l[i].kind) ∧ w.cell? ⟨b, o + i * 4 + 1, none⟩ = some (.int .i64 l[i].num) ∧ w.cell? ⟨b, o + i * 4 + 2, none⟩ = some (.string l[i].text) ∧
      w.cell? ⟨b, o + i * 4 + 3, none⟩ = some (.slice fa l[i].list.length fc) ∧ RepG S w l[i] (.int .i64 l[i].kind) (.int .i64 l[i].num) (.string l[i].text) (.slice fa l[i].list.length fc) := by
  obtain ⟨a', b, o, cap', e, h6, h7, h8, h9, h10⟩ := h
  cases e
  obtain ⟨x0, x1, x2, x3, g0, g1, g2, g3, g⟩ := h10 i hi
  obtain ⟨fa, fc, rfl, rfl, rfl, rfl⟩ := g.form
  exact ⟨rfl, h6, b, o, fa, fc, h8 (by omega), h9 (by omega), g0, g1, g2, g3, g⟩
/-- Its beginning. -/
theorem RepLG.front {S : Nat → Prop} {w : World} {l : List V} {a : Option Addr} {n cap : Nat} (h : RepLG S w l (.slice a n cap)) (k : Nat) (hk : k ≤ l.length) : RepLG S w (l.take k) (.slice a k cap) := by
  obtain ⟨a', b, o, cap', e, h6, h7, h8, h9, h10⟩ := h
  cases e
  have hl : (l.take k).length = k := by simp; omega
  refine ⟨a, b, o, cap, by rw [hl], by omega, by omega, h8, fun h => h9 (by omega), fun i hi => ?_⟩
  obtain ⟨x0, x1, x2, x3, g0, g1, g2, g3, g⟩ := h10 i (by omega)
  exact ⟨x0, x1, x2, x3, g0, g1, g2, g3, by rw [List.getElem_take]; exact g⟩
/-- What stands behind the first one. -/
theorem RepLG.behind {S : Nat → Prop} {w : World} {x : V} {l : List V} {b o n cap : Nat} (h : RepLG S w (x :: l) (.slice (some ⟨b, o, none⟩) n cap)) : RepLG S w l (.slice (some ⟨b, o + 4, none⟩) l.length (cap - 1)) := by
  obtain ⟨a', b', o', cap', e, h6, h7, h8, h9, h10⟩ := h
  cases e
  simp only [List.length_cons] at h6 h7 h8 h9 h10
  have e := h8 (by omega)
  cases e
  refine ⟨_, b, o + 4, cap - 1, rfl, by omega, by omega, fun _ => rfl, fun _ => h9 (by omega), fun i hi => ?_⟩
  obtain ⟨x0, x1, x2, x3, g0, g1, g2, g3, g⟩ := h10 (i + 1) (by omega)
  rw [show o + (i + 1) * 4 = o + 4 + i * 4 by omega] at g0 g1 g2 g3
  exact ⟨x0, x1, x2, x3, g0, g1, g2, g3, by simpa using g⟩

theorem sharing_any (w : World) (a : Option Addr) (n cap : Nat) : Calls Tryd.prog 59 #[.slice a n cap] w fun e w' => e = .returned (.agg #[.int .i64 4, .int .i64 0, .string ⟨#[]⟩, .slice a n cap]) ∧ Below w.heap.size w w' := by
  go_enter Tryd.func59, Tryd.ntmps59
  go_wp2
  exact bodyPost_ret (v := .agg #[.int .i64 4, .int .i64 0, .string ⟨#[]⟩, .slice a n cap]) (by simp [results, Tryd.results59, go_sem]) rfl ⟨rfl, (Below.refl _ _).alloc (Nat.le_refl _) _⟩

/-- The variable of a result: four stores into it. -/
theorem stored4 {W w : World} (hw : Below W.heap.size W w) (k : Nat) (hk : W.heap.size ≤ k) (c0 c1 c2 c3 : Value) : Below W.heap.size W ((((w.setCell ⟨k, 0, none⟩ c0).setCell ⟨k, 1, none⟩ c1).setCell ⟨k, 2, none⟩ c2).setCell ⟨k, 3, none⟩ c3) :=
  (((hw.setCell hk _).setCell hk _).setCell hk _).setCell hk _
theorem RepG.past4 {S : Nat → Prop} {w : World} {x : V} {c0 c1 c2 c3 : Value} (h : RepG S w x c0 c1 c2 c3) (k : Nat) (hk : ¬ S k) (hS : ∀ b, S b → b < w.heap.size) (d0 d1 d2 d3 : Value) :
    RepV ((((w.setCell ⟨k, 0, none⟩ d0).setCell ⟨k, 1, none⟩ d1).setCell ⟨k, 2, none⟩ d2).setCell ⟨k, 3, none⟩ d3).heap.size ((((w.setCell ⟨k, 0, none⟩ d0).setCell ⟨k, 1, none⟩ d1).setCell ⟨k, 2, none⟩ d2).setCell ⟨k, 3, none⟩ d3) x c0 c1 c2 c3 := by
  refine RepG.on (fun b hb => by simp [World.setCell]; exact hS b hb) (fun b hb => ?_) x h
  have h1 : b ≠ k := fun e => hk (e ▸ hb)
  rw [Below.heap_setCell _ _ _ _ (by simpa using h1), Below.heap_setCell _ _ _ _ (by simpa using h1), Below.heap_setCell _ _ _ _ (by simpa using h1), Below.heap_setCell _ _ _ _ (by simpa using h1)]

set_option maxRecDepth 100000 in
set_option maxHeartbeats 1000000 in
theorem size_any (x : V) (B : Nat) (w : World) (a : Value) (hB : B ≤ w.heap.size) (ha : RepL B w [x] a) :
    Calls Tryd.prog 42 #[a] w (DoPost (numV x.list.length) w) := by
  have hb1 : Below w.heap.size w (w.alloc (.cells #[.int .i64 0, .int .i64 0, .string ⟨#[]⟩, .slice none 0 0] 24)) := (Below.refl _ w).alloc (Nat.le_refl _) _
  have HX := Lib.hid (boxed_new w (.int .i64 0) (.int .i64 0) (.string ⟨#[]⟩) (.slice none 0 0))
  have HB1 := Lib.hid hb1
  obtain ⟨aa, ab, ao, ac, rfl, hac, -⟩ := id ha
  obtain ⟨-, -, b, o, fa, fc, rfl, hSb, g0, g1, g2, g3, g⟩ := RepLG.at (RepL.below (w' := (w.alloc (.cells #[.int .i64 0, .int .i64 0, .string ⟨#[]⟩, .slice none 0 0] 24))) (fun j hj => hb1.block j (by omega)) ha) 0 (by simp)
  simp only [List.getElem_cons_zero, Nat.zero_mul, Nat.add_zero] at g0 g1 g2 g3 g
  have hlen : x.list.length * 56 ≤ 140737488355328 := by obtain ⟨_, _, _, _, _, _, h, _⟩ := g.lst; exact h
  have hn : I64 x.list.length := ⟨by omega, by omega⟩
  have HN := Lib.hid hn
  clear ha g hn hb1
  go_enter Tryd.func42, Tryd.ntmps42
  go_wp2_with fail
  refine (number_any _ _).mono ?_
  rintro e w2 ⟨rfl, hb⟩
  have X2 := HX.out.on hb
  have HB2 := Lib.hid (Below.step HB1.out hb)
  obtain ⟨r0, r1, r2, r3⟩ := X2.cells
  have z0 := frozen_of_row w2 _ 0 _ _ X2
  have z1 := frozen_of_row w2 _ 1 _ _ X2
  have z2 := frozen_of_row w2 _ 2 _ _ X2
  have z3 := frozen_of_row w2 _ 3 _ _ X2
  clear g0 g1 g2 g3 X2 hb
  go_wp2_with fail
  refine bodyPost_ret (v := .agg #[.int .i64 1, .int .i64 x.list.length, .string ⟨#[]⟩, .slice none 0 0]) (by simp [results, Tryd.results42, go_sem, r0, r1, r2, r3]) rfl ?_
  exact ⟨_, _, _, _, rfl, rep_num HN.out, stored4 HB2.out _ (Nat.le_refl _) _ _ _ _⟩

end Go.Proofs.YtaomlkglodeaoaaDoor

/-
  What builtin's functions do: first, last, rest.
-/
namespace Go.Proofs.YtaomlkglodeaoaaDoor
open Go.RowKit

/-- What lay in w lies behind a new block too. -/
theorem RepG.new {S : Nat → Prop} {w : World} {x : V} {c0 c1 c2 c3 : Value} {o : Obj} (h : RepG S (w.alloc o) x c0 c1 c2 c3) (hS : ∀ b, S b → b < w.heap.size) (o1 : Obj) : RepV (w.alloc o1).heap.size (w.alloc o1) x c0 c1 c2 c3 :=
  RepG.on (fun b hb => by have := hS b hb; simp; omega) (fun b hb => by rw [Below.heap_alloc _ _ _ (hS b hb), Below.heap_alloc _ _ _ (hS b hb)]) x h

def firstV (x : V) : V := match x.list with | [] => zeroV | z :: _ => z
def lastV (x : V) : V := match x.list.getLast? with | none => zeroV | some z => z
def restV (x : V) : V := match x.list with | [] => zeroV | _ :: t => listV t

set_option maxRecDepth 100000 in
set_option maxHeartbeats 1000000 in
theorem first_any (x : V) (B : Nat) (w : World) (a : Value) (hB : B ≤ w.heap.size) (ha : RepL B w [x] a) :
    Calls Tryd.prog 43 #[a] w (DoPost (firstV x) w) := by
  have hb1 : Below w.heap.size w (w.alloc (.cells #[.int .i64 0, .int .i64 0, .string ⟨#[]⟩, .slice none 0 0] 24)) := (Below.refl _ w).alloc (Nat.le_refl _) _
  have HB1 := Lib.hid hb1
  obtain ⟨aa, ab, ao, ac, rfl, hac, -⟩ := id ha
  obtain ⟨-, -, b, o, fa, fc, rfl, hSb, g0, g1, g2, g3, g⟩ := RepLG.at (RepL.below (w' := (w.alloc (.cells #[.int .i64 0, .int .i64 0, .string ⟨#[]⟩, .slice none 0 0] 24))) (fun j hj => hb1.block j (by omega)) ha) 0 (by simp)
  simp only [List.getElem_cons_zero, Nat.zero_mul, Nat.add_zero] at g0 g1 g2 g3 g
  have gl := g.lst
  have hlen : x.list.length * 56 ≤ 140737488355328 := by obtain ⟨_, _, _, _, _, _, h, _⟩ := gl; exact h
  match hl : x.list with
  | [] =>
    have HE : Hid (firstV x = zeroV) := by show _ = _; rw [firstV, hl]
    rw [hl] at g3
    clear ha g gl hb1 hl
    go_enter Tryd.func43, Tryd.ntmps43
    go_wp2_with fail
    refine bodyPost_ret (v := .agg #[.int .i64 0, .int .i64 0, .string ⟨#[]⟩, .slice none 0 0]) (by simp [results, Tryd.results43, go_sem]) rfl ?_
    rw [HE.out]
    exact ⟨_, _, _, _, rfl, rep_zero, (Below.refl _ w).alloc (Nat.le_refl _) _⟩
  | z :: t =>
    have HE : Hid (firstV x = z) := by show _ = _; rw [firstV, hl]
    rw [hl] at g3 gl hlen
    obtain ⟨-, -, b', o', fa', fc', rfl, hSb', e0, e1, e2, e3, g'⟩ := RepLG.at gl 0 (by simp)
    simp only [List.getElem_cons_zero, Nat.zero_mul, Nat.add_zero] at e0 e1 e2 e3 g'
    have HG := Lib.hid g'
    have hne : (((z :: t).length : Int) == 0) = false := beq_eq_false_iff_ne.2 (by simp; omega)
    have hpos : 0 < (z :: t).length := by simp
    generalize (z :: t).length = len at *
    clear ha g gl hb1 hl g'
    go_enter Tryd.func43, Tryd.ntmps43
    go_wp2_with fail
    refine bodyPost_ret (v := .agg #[.int .i64 z.kind, .int .i64 z.num, .string z.text, .slice fa' z.list.length fc']) (by simp [results, Tryd.results43, go_sem]) rfl ?_
    rw [HE.out]
    exact ⟨_, _, _, _, rfl, RepG.new HG.out (fun b hb => Nat.lt_of_lt_of_le hb hB) _, (Below.refl _ w).alloc (Nat.le_refl _) _⟩

set_option maxRecDepth 100000 in
set_option maxHeartbeats 1000000 in
theorem last_any (x : V) (B : Nat) (w : World) (a : Value) (hB : B ≤ w.heap.size) (ha : RepL B w [x] a) :
    Calls Tryd.prog 44 #[a] w (DoPost (lastV x) w) := by
  have hb1 : Below w.heap.size w (w.alloc (.cells #[.int .i64 0, .int .i64 0, .string ⟨#[]⟩, .slice none 0 0] 24)) := (Below.refl _ w).alloc (Nat.le_refl _) _
  have HB1 := Lib.hid hb1
  obtain ⟨aa, ab, ao, ac, rfl, hac, -⟩ := id ha
  obtain ⟨-, -, b, o, fa, fc, rfl, hSb, g0, g1, g2, g3, g⟩ := RepLG.at (RepL.below (w' := (w.alloc (.cells #[.int .i64 0, .int .i64 0, .string ⟨#[]⟩, .slice none 0 0] 24))) (fun j hj => hb1.block j (by omega)) ha) 0 (by simp)
  simp only [List.getElem_cons_zero, Nat.zero_mul, Nat.add_zero] at g0 g1 g2 g3 g
  have gl := g.lst
  have hlen : x.list.length * 56 ≤ 140737488355328 := by obtain ⟨_, _, _, _, _, _, h, _⟩ := gl; exact h
  by_cases hz : x.list.length = 0
  · have HE : Hid (lastV x = zeroV) := by show _ = _; rw [lastV, List.length_eq_zero_iff.1 hz]; rfl
    rw [hz] at g3
    clear ha g gl hb1 hz
    go_enter Tryd.func44, Tryd.ntmps44
    go_wp2_with fail
    refine bodyPost_ret (v := .agg #[.int .i64 0, .int .i64 0, .string ⟨#[]⟩, .slice none 0 0]) (by simp [results, Tryd.results44, go_sem]) rfl ?_
    rw [HE.out]
    exact ⟨_, _, _, _, rfl, rep_zero, (Below.refl _ w).alloc (Nat.le_refl _) _⟩
  · have hn1 : x.list.length - 1 < x.list.length := by omega
    have HE : Hid (lastV x = x.list[x.list.length - 1]) := by
      show _ = _
      rw [lastV, List.getLast?_eq_getElem?, List.getElem?_eq_getElem hn1]
    obtain ⟨-, -, b', o', fa', fc', rfl, hSb', e0, e1, e2, e3, g'⟩ := RepLG.at gl (x.list.length - 1) hn1
    generalize x.list[x.list.length - 1] = z at *
    have HG := Lib.hid g'
    obtain ⟨len, hlen2⟩ : ∃ len, x.list.length = len + 1 := ⟨x.list.length - 1, by omega⟩
    rw [hlen2] at g3 e0 e1 e2 e3 hlen
    simp only [Nat.add_sub_cancel] at e0 e1 e2 e3
    have hne : (((len + 1 : Nat) : Int) == 0) = false := beq_eq_false_iff_ne.2 (by omega)
    have hne2 : ((len : Int) + 1 == 0) = false := beq_eq_false_iff_ne.2 (by omega)
    clear ha g gl hb1 hz g' hlen2 hn1
    go_enter Tryd.func44, Tryd.ntmps44
    go_wp2_with fail
    refine bodyPost_ret (v := .agg #[.int .i64 z.kind, .int .i64 z.num, .string z.text, .slice fa' z.list.length fc']) (by simp [results, Tryd.results44, go_sem]) rfl ?_
    rw [HE.out]
    exact ⟨_, _, _, _, rfl, RepG.new HG.out (fun b hb => Nat.lt_of_lt_of_le hb hB) _, (Below.refl _ w).alloc (Nat.le_refl _) _⟩

set_option maxRecDepth 100000 in
set_option maxHeartbeats 1000000 in
theorem rest_any (x : V) (B : Nat) (w : World) (a : Value) (hB : B ≤ w.heap.size) (ha : RepL B w [x] a) :
    Calls Tryd.prog 45 #[a] w (DoPost (restV x) w) := by
  have hb1 : Below w.heap.size w (w.alloc (.cells #[.int .i64 0, .int .i64 0, .string ⟨#[]⟩, .slice none 0 0] 24)) := (Below.refl _ w).alloc (Nat.le_refl _) _
  have HX := Lib.hid (boxed_new w (.int .i64 0) (.int .i64 0) (.string ⟨#[]⟩) (.slice none 0 0))
  have HB1 := Lib.hid hb1
  obtain ⟨aa, ab, ao, ac, rfl, hac, -⟩ := id ha
  obtain ⟨-, -, b, o, fa, fc, rfl, hSb, g0, g1, g2, g3, g⟩ := RepLG.at (RepL.below (w' := (w.alloc (.cells #[.int .i64 0, .int .i64 0, .string ⟨#[]⟩, .slice none 0 0] 24))) (fun j hj => hb1.block j (by omega)) ha) 0 (by simp)
  simp only [List.getElem_cons_zero, Nat.zero_mul, Nat.add_zero] at g0 g1 g2 g3 g
  have gl := g.lst
  have hlen : x.list.length * 56 ≤ 140737488355328 := by obtain ⟨_, _, _, _, _, _, h, _⟩ := gl; exact h
  match hl : x.list with
  | [] =>
    have HE : Hid (restV x = zeroV) := by show _ = _; rw [restV, hl]
    rw [hl] at g3
    clear ha g gl hb1 hl HX
    go_enter Tryd.func45, Tryd.ntmps45
    go_wp2_with fail
    refine bodyPost_ret (v := .agg #[.int .i64 0, .int .i64 0, .string ⟨#[]⟩, .slice none 0 0]) (by simp [results, Tryd.results45, go_sem]) rfl ?_
    rw [HE.out]
    exact ⟨_, _, _, _, rfl, rep_zero, (Below.refl _ w).alloc (Nat.le_refl _) _⟩
  | z :: t =>
    have HE : Hid (restV x = listV t) := by show _ = _; rw [restV, hl]
    rw [hl] at g3 gl hlen
    obtain ⟨-, hcap, b', o', -, -, rfl, -⟩ := RepLG.at gl 0 (by simp)
    have HG := Lib.hid gl.behind
    have hne : (((z :: t).length : Int) == 0) = false := beq_eq_false_iff_ne.2 (by simp; omega)
    have hne2 : ((t.length : Int) + 1 == 0) = false := beq_eq_false_iff_ne.2 (by omega)
    simp only [List.length_cons] at g3 hne hcap hlen
    clear ha g gl hb1 hl
    have finish : ∀ (w2 : World) (a' : Option Addr) (n' c' : Nat), Below ((w.alloc (.cells #[.int .i64 0, .int .i64 0, .string ⟨#[]⟩, .slice none 0 0] 24))).heap.size (w.alloc (.cells #[.int .i64 0, .int .i64 0, .string ⟨#[]⟩, .slice none 0 0] 24)) w2 → RepLG (fun b => b < B) (w.alloc (.cells #[.int .i64 0, .int .i64 0, .string ⟨#[]⟩, .slice none 0 0] 24)) t (.slice a' n' c') → DoPost (restV x) w (.returned (.agg #[.int .i64 4, .int .i64 0, .string ⟨#[]⟩, .slice a' n' c'])) ((((w2.setCell ⟨w.heap.size, 0, none⟩ (.int .i64 4)).setCell ⟨w.heap.size, 1, none⟩ (.int .i64 0)).setCell ⟨w.heap.size, 2, none⟩ (.string ⟨#[]⟩)).setCell ⟨w.heap.size, 3, none⟩ (.slice a' n' c')) := by
      intro w2 a' n' c' hb hr
      rw [HE.out]
      exact ⟨_, _, _, _, rfl, RepG.past4 (rep_list (hr.on (fun _ h => h) (fun k hk => hb.block k (by simp; omega)))) _ (by omega) (fun b h => by have := hb.size; simp at this; omega) _ _ _ _, stored4 (Below.step HB1.out hb) _ (Nat.le_refl _) _ _ _ _⟩
    have HF := Lib.hid finish
    clear finish
    by_cases hc : fc = 1
    · have ht : t = [] := List.length_eq_zero_iff.1 (by omega)
      subst ht
      subst hc
      clear hlen hcap
      simp only [List.length_nil, Nat.zero_add] at g3 hne hne2
      go_enter Tryd.func45, Tryd.ntmps45
      go_wp2_with fail
      refine (sharing_any _ _ _ _).mono ?_
      rintro e w2 ⟨rfl, hb⟩
      have X2 := HX.out.on hb
      obtain ⟨r0, r1, r2, r3⟩ := X2.cells
      have z0 := frozen_of_row w2 _ 0 _ _ X2
      have z1 := frozen_of_row w2 _ 1 _ _ X2
      have z2 := frozen_of_row w2 _ 2 _ _ X2
      have z3 := frozen_of_row w2 _ 3 _ _ X2
      have HBB := Lib.hid hb
      clear g0 g1 g2 g3 X2 hb
      go_wp2_with fail
      refine bodyPost_ret (by simp [results, Tryd.results45, go_sem, r0, r1, r2, r3]; rfl) rfl ?_
      refine HF.out _ _ _ _ HBB.out ?_
      exact ⟨_, 0, 0, _, rfl, Nat.zero_le _, by simp, fun h => by omega, fun h => by simp at h, fun i hi => by simp at hi⟩
    · have hc1 : 1 < fc := by omega
      have HC := Lib.hid hc; clear hc
      go_enter Tryd.func45, Tryd.ntmps45
      go_wp2_with fail
      refine (sharing_any _ _ _ _).mono ?_
      rintro e w2 ⟨rfl, hb⟩
      have X2 := HX.out.on hb
      obtain ⟨r0, r1, r2, r3⟩ := X2.cells
      have z0 := frozen_of_row w2 _ 0 _ _ X2
      have z1 := frozen_of_row w2 _ 1 _ _ X2
      have z2 := frozen_of_row w2 _ 2 _ _ X2
      have z3 := frozen_of_row w2 _ 3 _ _ X2
      have HBB := Lib.hid hb
      clear g0 g1 g2 g3 X2 hb
      go_wp2_with fail
      refine bodyPost_ret (by simp [results, Tryd.results45, go_sem, r0, r1, r2, r3]; rfl) rfl ?_
      exact HF.out _ _ _ _ HBB.out HG.out

end Go.Proofs.YtaomlkglodeaoaaDoor

/-
  What builtin's functions do: cons, appended, concat.
-/
namespace Go.Proofs.YtaomlkglodeaoaaDoor
open Go.RowKit

set_option maxRecDepth 100000 in
set_option maxHeartbeats 1000000 in
theorem cons_any (x y : V) (B : Nat) (w : World) (a : Value) (hB : B ≤ w.heap.size) (ha : RepL B w [x, y] a) (_hx1 : x.list.length ≤ 100) (hy1 : y.list.length ≤ 100) :
    Calls Tryd.prog 38 #[a] w (DoPost (listV (x :: y.list)) w) := by
  have hb1 : Below w.heap.size w (w.alloc (.cells #[.int .i64 0, .int .i64 0, .string ⟨#[]⟩, .slice none 0 0] 24)) := (Below.refl _ w).alloc (Nat.le_refl _) _
  have hbd : Below w.heap.size w ((w.alloc (.cells #[.int .i64 0, .int .i64 0, .string ⟨#[]⟩, .slice none 0 0] 24))).drew := hb1.drew
  have HX := Lib.hid ((boxed_new w (.int .i64 0) (.int .i64 0) (.string ⟨#[]⟩) (.slice none 0 0)).on (Below.drew (Below.refl _ (w.alloc (.cells #[.int .i64 0, .int .i64 0, .string ⟨#[]⟩, .slice none 0 0] 24)))))
  have HBD := Lib.hid hbd
  obtain ⟨aa, ab, ao, ac, rfl, hac, -⟩ := id ha
  obtain ⟨-, hcap, b, o, fa, fc, rfl, hSb, g0, g1, g2, g3, g⟩ := RepLG.at (RepL.below (w' := (w.alloc (.cells #[.int .i64 0, .int .i64 0, .string ⟨#[]⟩, .slice none 0 0] 24))) (fun j hj => hb1.block j (by omega)) ha) 0 (by simp)
  obtain ⟨-, -, b', o', fa', fc', e', -, e0, e1, e2, e3, g'⟩ := RepLG.at (RepL.below (w' := (w.alloc (.cells #[.int .i64 0, .int .i64 0, .string ⟨#[]⟩, .slice none 0 0] 24))) (fun j hj => hb1.block j (by omega)) ha) 1 (by simp)
  cases e'
  simp only [List.getElem_cons_zero, List.getElem_cons_succ, Nat.zero_mul, Nat.one_mul, Nat.add_zero, List.length_cons, List.length_nil, Nat.zero_add, Nat.reduceAdd] at g0 g1 g2 g3 g e0 e1 e2 e3 g' hcap hac
  have GA := Lib.hid (RepL.below (w' := ((w.alloc (.cells #[.int .i64 0, .int .i64 0, .string ⟨#[]⟩, .slice none 0 0] 24))).drew) (fun j hj => hbd.block j (by omega)) ha)
  have GX := Lib.hid g.lst
  have GY := Lib.hid g'.lst
  have GF := Lib.hid (RepLG.front (RepL.below (w' := ((w.alloc (.cells #[.int .i64 0, .int .i64 0, .string ⟨#[]⟩, .slice none 0 0] 24))).drew) (fun j hj => hbd.block j (by omega)) ha) 1 (by simp))
  have h1c : (1 : Int) ≤ (ac : Int) := by omega
  have h1d : 1 < ac := by omega
  have h1e : ¬ ac = 1 := by omega
  clear ha g g' hb1 hbd
  go_enter Tryd.func38, Tryd.ntmps38
  go_wp2_with fail
  have hs1 : ((w.alloc (.cells #[.int .i64 0, .int .i64 0, .string ⟨#[]⟩, .slice none 0 0] 24))).drew.heap.size = w.heap.size + 1 := World.size_alloc _ _
  have GX1 := Lib.hid (RepL.below (B := B) (w := (w.alloc (.cells #[.int .i64 0, .int .i64 0, .string ⟨#[]⟩, .slice none 0 0] 24))) (w' := ((w.alloc (.cells #[.int .i64 0, .int .i64 0, .string ⟨#[]⟩, .slice none 0 0] 24))).drew) (fun _ _ => rfl) GX.out)
  have GY1 := Lib.hid (RepL.below (B := B) (w := (w.alloc (.cells #[.int .i64 0, .int .i64 0, .string ⟨#[]⟩, .slice none 0 0] 24))) (w' := ((w.alloc (.cells #[.int .i64 0, .int .i64 0, .string ⟨#[]⟩, .slice none 0 0] 24))).drew) (fun _ _ => rfl) GY.out)
  clear GX GY
  generalize (w.alloc (.cells #[.int .i64 0, .int .i64 0, .string ⟨#[]⟩, .slice none 0 0] 24)) = w0 at *
  go_still_tail 6, (by kernel_rfl)
  change wpList _ _ _ _ _ w0.drew
  clear g0 g1 g2 g3 e0 e1 e2 e3
  generalize w0.drew = w1 at *
  have HS1 := Lib.hid hs1
  have hs1' : w.heap.size < w1.heap.size := by omega
  clear hs1
  go_wp2_with fail
  have hba : ∀ o, Below w1.heap.size w1 (w1.alloc o) := fun o => (Below.refl _ w1).alloc (Nat.le_refl _) o
  refine (concat_any [x] y.list B _ _ _ w1.heap.size (by simp; omega) (alloc_new' _ _) (RepL.below (fun j hj => (hba _).block j (by omega)) GF.out) (RepL.below (fun j hj => (hba _).block j (by omega)) GY1.out) (by simp) hy1).mono ?_
  rintro e w2 ⟨r, rfl, hr, hb2⟩
  obtain ⟨ra, rb, ro, rc, rfl, -⟩ := id hr
  generalize ([x] ++ y.list).length = n at hr ⊢
  have HR2 := Lib.hid hr
  have HB2 := Lib.hid (Below.step (hba _) hb2)
  clear hr hb2
  go_wp2_with fail
  refine (sharing_any _ _ _ _).mono ?_
  rintro e w3 ⟨rfl, hb3⟩
  have HB3 := Lib.hid (Below.step HB2.out hb3)
  have HR3 := Lib.hid (HR2.out.on (w' := w3) (fun _ h => h) (fun k hk => hb3.block k (by have := HB2.out.size; omega)))
  have X3 := HX.out.on HB3.out
  obtain ⟨r0, r1, r2, r3⟩ := X3.cells
  have z0 := frozen_of_row w3 _ 0 _ _ X3
  have z1 := frozen_of_row w3 _ 1 _ _ X3
  have z2 := frozen_of_row w3 _ 2 _ _ X3
  have z3 := frozen_of_row w3 _ 3 _ _ X3
  have hs3 := hb3.size
  have hs2 := HB2.out.size
  clear X3
  go_wp2_with fail
  refine bodyPost_ret (by simp [results, Tryd.results38, go_sem, r0, r1, r2, r3]; rfl) rfl ?_
  exact ⟨_, _, _, _, rfl, RepG.past4 (rep_list HR3.out) w.heap.size (by have := HS1.out; simp; omega) (fun b h => by simp at h; omega) _ _ _ _, stored4 (Below.trans HBD.out (HB3.out.mono (by have := HS1.out; omega))) w.heap.size (Nat.le_refl _) _ _ _ _⟩

set_option maxRecDepth 100000 in
set_option maxHeartbeats 1000000 in
theorem appended_any (x y : V) (B : Nat) (w : World) (a : Value) (hB : B ≤ w.heap.size) (ha : RepL B w [x, y] a) (hx1 : x.list.length ≤ 100) (_hy1 : y.list.length ≤ 100) :
    Calls Tryd.prog 39 #[a] w (DoPost (listV (x.list ++ [y])) w) := by
  have hb1 : Below w.heap.size w (w.alloc (.cells #[.int .i64 0, .int .i64 0, .string ⟨#[]⟩, .slice none 0 0] 24)) := (Below.refl _ w).alloc (Nat.le_refl _) _
  have hbd : Below w.heap.size w ((w.alloc (.cells #[.int .i64 0, .int .i64 0, .string ⟨#[]⟩, .slice none 0 0] 24))).drew := hb1.drew
  have HX := Lib.hid ((boxed_new w (.int .i64 0) (.int .i64 0) (.string ⟨#[]⟩) (.slice none 0 0)).on (Below.drew (Below.refl _ (w.alloc (.cells #[.int .i64 0, .int .i64 0, .string ⟨#[]⟩, .slice none 0 0] 24)))))
  have HBD := Lib.hid hbd
  obtain ⟨aa, ab, ao, ac, rfl, hac, -⟩ := id ha
  obtain ⟨-, hcap, b, o, fa, fc, rfl, hSb, g0, g1, g2, g3, g⟩ := RepLG.at (RepL.below (w' := (w.alloc (.cells #[.int .i64 0, .int .i64 0, .string ⟨#[]⟩, .slice none 0 0] 24))) (fun j hj => hb1.block j (by omega)) ha) 0 (by simp)
  obtain ⟨-, -, b', o', fa', fc', e', -, e0, e1, e2, e3, g'⟩ := RepLG.at (RepL.below (w' := (w.alloc (.cells #[.int .i64 0, .int .i64 0, .string ⟨#[]⟩, .slice none 0 0] 24))) (fun j hj => hb1.block j (by omega)) ha) 1 (by simp)
  cases e'
  simp only [List.getElem_cons_zero, List.getElem_cons_succ, Nat.zero_mul, Nat.one_mul, Nat.add_zero, List.length_cons, List.length_nil, Nat.zero_add, Nat.reduceAdd] at g0 g1 g2 g3 g e0 e1 e2 e3 g' hcap hac
  have GA := Lib.hid (RepL.below (w' := ((w.alloc (.cells #[.int .i64 0, .int .i64 0, .string ⟨#[]⟩, .slice none 0 0] 24))).drew) (fun j hj => hbd.block j (by omega)) ha)
  have GX := Lib.hid g.lst
  have GY := Lib.hid g'.lst
  have GF := Lib.hid (RepLG.behind (RepL.below (w' := ((w.alloc (.cells #[.int .i64 0, .int .i64 0, .string ⟨#[]⟩, .slice none 0 0] 24))).drew) (fun j hj => hbd.block j (by omega)) ha))
  have h1c : (1 : Int) ≤ (ac : Int) := by omega
  have h1d : 1 < ac := by omega
  have h1e : ¬ ac = 1 := by omega
  clear ha g g' hb1 hbd
  go_enter Tryd.func39, Tryd.ntmps39
  go_wp2_with fail
  have hs1 : ((w.alloc (.cells #[.int .i64 0, .int .i64 0, .string ⟨#[]⟩, .slice none 0 0] 24))).drew.heap.size = w.heap.size + 1 := World.size_alloc _ _
  have GX1 := Lib.hid (RepL.below (B := B) (w := (w.alloc (.cells #[.int .i64 0, .int .i64 0, .string ⟨#[]⟩, .slice none 0 0] 24))) (w' := ((w.alloc (.cells #[.int .i64 0, .int .i64 0, .string ⟨#[]⟩, .slice none 0 0] 24))).drew) (fun _ _ => rfl) GX.out)
  have GY1 := Lib.hid (RepL.below (B := B) (w := (w.alloc (.cells #[.int .i64 0, .int .i64 0, .string ⟨#[]⟩, .slice none 0 0] 24))) (w' := ((w.alloc (.cells #[.int .i64 0, .int .i64 0, .string ⟨#[]⟩, .slice none 0 0] 24))).drew) (fun _ _ => rfl) GY.out)
  clear GX GY
  generalize (w.alloc (.cells #[.int .i64 0, .int .i64 0, .string ⟨#[]⟩, .slice none 0 0] 24)) = w0 at *
  go_still_tail 6, (by kernel_rfl)
  change wpList _ _ _ _ _ w0.drew
  clear g0 g1 g2 g3 e0 e1 e2 e3
  generalize w0.drew = w1 at *
  have HS1 := Lib.hid hs1
  have hs1' : w.heap.size < w1.heap.size := by omega
  clear hs1
  go_wp2_with fail
  have hba : ∀ o, Below w1.heap.size w1 (w1.alloc o) := fun o => (Below.refl _ w1).alloc (Nat.le_refl _) o
  refine (concat_any x.list [y] B _ _ _ w1.heap.size (by simp; omega) (alloc_new' _ _) (RepL.below (fun j hj => (hba _).block j (by omega)) GX1.out) (RepL.below (fun j hj => (hba _).block j (by omega)) GF.out) hx1 (by simp)).mono ?_
  rintro e w2 ⟨r, rfl, hr, hb2⟩
  obtain ⟨ra, rb, ro, rc, rfl, -⟩ := id hr
  generalize (x.list ++ [y]).length = n at hr ⊢
  have HR2 := Lib.hid hr
  have HB2 := Lib.hid (Below.step (hba _) hb2)
  clear hr hb2
  go_wp2_with fail
  refine (sharing_any _ _ _ _).mono ?_
  rintro e w3 ⟨rfl, hb3⟩
  have HB3 := Lib.hid (Below.step HB2.out hb3)
  have HR3 := Lib.hid (HR2.out.on (w' := w3) (fun _ h => h) (fun k hk => hb3.block k (by have := HB2.out.size; omega)))
  have X3 := HX.out.on HB3.out
  obtain ⟨r0, r1, r2, r3⟩ := X3.cells
  have z0 := frozen_of_row w3 _ 0 _ _ X3
  have z1 := frozen_of_row w3 _ 1 _ _ X3
  have z2 := frozen_of_row w3 _ 2 _ _ X3
  have z3 := frozen_of_row w3 _ 3 _ _ X3
  have hs3 := hb3.size
  have hs2 := HB2.out.size
  clear X3
  go_wp2_with fail
  refine bodyPost_ret (by simp [results, Tryd.results39, go_sem, r0, r1, r2, r3]; rfl) rfl ?_
  exact ⟨_, _, _, _, rfl, RepG.past4 (rep_list HR3.out) w.heap.size (by have := HS1.out; simp; omega) (fun b h => by simp at h; omega) _ _ _ _, stored4 (Below.trans HBD.out (HB3.out.mono (by have := HS1.out; omega))) w.heap.size (Nat.le_refl _) _ _ _ _⟩

set_option maxRecDepth 100000 in
set_option maxHeartbeats 1000000 in
theorem joined_any (x y : V) (B : Nat) (w : World) (a : Value) (hB : B ≤ w.heap.size) (ha : RepL B w [x, y] a) (hx1 : x.list.length ≤ 100) (hy1 : y.list.length ≤ 100) :
    Calls Tryd.prog 40 #[a] w (DoPost (listV (x.list ++ y.list)) w) := by
  have hb1 : Below w.heap.size w (w.alloc (.cells #[.int .i64 0, .int .i64 0, .string ⟨#[]⟩, .slice none 0 0] 24)) := (Below.refl _ w).alloc (Nat.le_refl _) _
  have hbd : Below w.heap.size w ((w.alloc (.cells #[.int .i64 0, .int .i64 0, .string ⟨#[]⟩, .slice none 0 0] 24))).drew := hb1.drew
  have HX := Lib.hid ((boxed_new w (.int .i64 0) (.int .i64 0) (.string ⟨#[]⟩) (.slice none 0 0)).on (Below.drew (Below.refl _ (w.alloc (.cells #[.int .i64 0, .int .i64 0, .string ⟨#[]⟩, .slice none 0 0] 24)))))
  have HBD := Lib.hid hbd
  obtain ⟨aa, ab, ao, ac, rfl, hac, -⟩ := id ha
  obtain ⟨-, hcap, b, o, fa, fc, rfl, hSb, g0, g1, g2, g3, g⟩ := RepLG.at (RepL.below (w' := (w.alloc (.cells #[.int .i64 0, .int .i64 0, .string ⟨#[]⟩, .slice none 0 0] 24))) (fun j hj => hb1.block j (by omega)) ha) 0 (by simp)
  obtain ⟨-, -, b', o', fa', fc', e', -, e0, e1, e2, e3, g'⟩ := RepLG.at (RepL.below (w' := (w.alloc (.cells #[.int .i64 0, .int .i64 0, .string ⟨#[]⟩, .slice none 0 0] 24))) (fun j hj => hb1.block j (by omega)) ha) 1 (by simp)
  cases e'
  simp only [List.getElem_cons_zero, List.getElem_cons_succ, Nat.zero_mul, Nat.one_mul, Nat.add_zero, List.length_cons, List.length_nil, Nat.zero_add, Nat.reduceAdd] at g0 g1 g2 g3 g e0 e1 e2 e3 g' hcap hac
  have GA := Lib.hid (RepL.below (w' := ((w.alloc (.cells #[.int .i64 0, .int .i64 0, .string ⟨#[]⟩, .slice none 0 0] 24))).drew) (fun j hj => hbd.block j (by omega)) ha)
  have GX := Lib.hid g.lst
  have GY := Lib.hid g'.lst
  have h1c : (1 : Int) ≤ (ac : Int) := by omega
  have h1d : 1 < ac := by omega
  have h1e : ¬ ac = 1 := by omega
  clear ha g g' hb1 hbd
  go_enter Tryd.func40, Tryd.ntmps40
  go_wp2_with fail
  have hs1 : ((w.alloc (.cells #[.int .i64 0, .int .i64 0, .string ⟨#[]⟩, .slice none 0 0] 24))).drew.heap.size = w.heap.size + 1 := World.size_alloc _ _
  have GX1 := Lib.hid (RepL.below (B := B) (w := (w.alloc (.cells #[.int .i64 0, .int .i64 0, .string ⟨#[]⟩, .slice none 0 0] 24))) (w' := ((w.alloc (.cells #[.int .i64 0, .int .i64 0, .string ⟨#[]⟩, .slice none 0 0] 24))).drew) (fun _ _ => rfl) GX.out)
  have GY1 := Lib.hid (RepL.below (B := B) (w := (w.alloc (.cells #[.int .i64 0, .int .i64 0, .string ⟨#[]⟩, .slice none 0 0] 24))) (w' := ((w.alloc (.cells #[.int .i64 0, .int .i64 0, .string ⟨#[]⟩, .slice none 0 0] 24))).drew) (fun _ _ => rfl) GY.out)
  clear GX GY
  generalize (w.alloc (.cells #[.int .i64 0, .int .i64 0, .string ⟨#[]⟩, .slice none 0 0] 24)) = w0 at *
  go_still_tail 8, (by kernel_rfl)
  change wpList _ _ _ _ _ w0.drew
  clear g0 g1 g2 g3 e0 e1 e2 e3
  generalize w0.drew = w1 at *
  have HS1 := Lib.hid hs1
  have hs1' : w.heap.size < w1.heap.size := by omega
  clear hs1
  go_wp2_with fail
  have hba : ∀ o, Below w1.heap.size w1 (w1.alloc o) := fun o => (Below.refl _ w1).alloc (Nat.le_refl _) o
  refine (concat_any x.list y.list B _ _ _ w1.heap.size (by simp; omega) (alloc_new' _ _) (RepL.below (fun j hj => (hba _).block j (by omega)) GX1.out) (RepL.below (fun j hj => (hba _).block j (by omega)) GY1.out) hx1 hy1).mono ?_
  rintro e w2 ⟨r, rfl, hr, hb2⟩
  obtain ⟨ra, rb, ro, rc, rfl, -⟩ := id hr
  generalize (x.list ++ y.list).length = n at hr ⊢
  have HR2 := Lib.hid hr
  have HB2 := Lib.hid (Below.step (hba _) hb2)
  clear hr hb2
  go_wp2_with fail
  refine (sharing_any _ _ _ _).mono ?_
  rintro e w3 ⟨rfl, hb3⟩
  have HB3 := Lib.hid (Below.step HB2.out hb3)
  have HR3 := Lib.hid (HR2.out.on (w' := w3) (fun _ h => h) (fun k hk => hb3.block k (by have := HB2.out.size; omega)))
  have X3 := HX.out.on HB3.out
  obtain ⟨r0, r1, r2, r3⟩ := X3.cells
  have z0 := frozen_of_row w3 _ 0 _ _ X3
  have z1 := frozen_of_row w3 _ 1 _ _ X3
  have z2 := frozen_of_row w3 _ 2 _ _ X3
  have z3 := frozen_of_row w3 _ 3 _ _ X3
  have hs3 := hb3.size
  have hs2 := HB2.out.size
  clear X3
  go_wp2_with fail
  refine bodyPost_ret (by simp [results, Tryd.results40, go_sem, r0, r1, r2, r3]; rfl) rfl ?_
  exact ⟨_, _, _, _, rfl, RepG.past4 (rep_list HR3.out) w.heap.size (by have := HS1.out; simp; omega) (fun b h => by simp at h; omega) _ _ _ _, stored4 (Below.trans HBD.out (HB3.out.mono (by have := HS1.out; omega))) w.heap.size (Nat.le_refl _) _ _ _ _⟩

end Go.Proofs.YtaomlkglodeaoaaDoor
