/-
  ValueLists as plain data: lists with a common beginning.
-/
import Derived.Test.YtaomlkglodeaoaaDoorW13
import Derived.Test.YtaomlkglodeaoaaDoorW03
import Derived.Test.YtaomlkglodeaoaaDoorW14
import Derived.Test.YtaomlkglodeaoaaDoorW02
import Derived.Deep.RegionLaw
import Derived.Deep.RegionHeld3
import Derived.Deep.DeepCutAuto
import Derived.Handy
namespace Go.Proofs.YtaomlkglodeaoaaDoor.valueLists
open Go.RowKit

theorem cmp_self (x : V) : cmpV x x = 0 := by
  have h := (ord_value x x x).sym
  omega
theorem cmpL_common : ∀ (c l m : List V), cmpL (c ++ l) (c ++ m) = cmpL l m
  | [], _, _ => rfl
  | x :: c, l, m => by rw [List.cons_append, List.cons_append, cmpL, cmp_self, if_neg (by simp), cmpL_common c l m]
theorem cmp_list (l m : List V) : cmpV (listV l) (listV m) = cmpL l m := by
  rw [listV, listV, cmpV]; simp
/-- What the law says of w. -/
def told (a b : V) (n : Nat) : Int := if cmpV a b = 0 ∧ 0 < n then -1 else cmpV a b
theorem cmp_one (a b : V) (more : List V) : cmpL [a] (b :: more) = told a b more.length := by
  rw [cmpL, told]
  by_cases h : cmpV a b = 0
  · rw [if_neg (by simp [h])]
    cases more with
    | nil => rw [cmpL, if_neg (by simp)]; exact h.symm
    | cons y r => rw [cmpL, if_pos ⟨h, by simp⟩]
  · rw [if_pos h, if_neg (fun hh => h hh.1)]
theorem xy (c : List V) (a b : V) (more : List V) : cmpV (listV (c ++ [a])) (listV (c ++ (b :: more))) = told a b more.length := by
  rw [cmp_list, cmpL_common, cmp_one]
theorem zx (c : List V) (a : V) : cmpV (listV c) (listV (c ++ [a])) = -1 := by
  have := cmpL_common c [] [a]
  rw [List.append_nil] at this
  rw [cmp_list, this, cmpL]
theorem yz (c : List V) (b : V) (more : List V) : cmpV (listV (c ++ (b :: more))) (listV c) = 1 := by
  have := cmpL_common c (b :: more) []
  rw [List.append_nil] at this
  rw [cmp_list, this, cmpL]

end Go.Proofs.YtaomlkglodeaoaaDoor.valueLists

/-
  For ValueLists: appends of copies as steps of a region that draws its order, and a variable that holds what a call handed back.
-/
namespace Go.Proofs.YtaomlkglodeaoaaDoor.valueLists
open Go.ChangeShapes Go.WideShapes Go.ChangeAt Go.RowKit

def cTo (l : List V) (k : Nat) : List V := (l.take k).map fun z => fitV 3 z
theorem cTo_length (l : List V) (k : Nat) : (cTo l k).length = min k l.length := by simp [cTo]

theorem stands_two (w : World) (a o : Obj) : Below w.heap.size w ((w.alloc a).alloc o) := ((Below.refl _ w).alloc (Nat.le_refl _) a).alloc (by simp) o
theorem alloc_two (w : World) (a o : Obj) : ((w.alloc a).alloc o).heap[w.heap.size + 1]? = some o := by
  have := alloc_new' (w.alloc a) o
  rw [World.size_alloc] at this
  exact this
theorem alloc_under (w : World) (o a : Obj) : ((w.alloc o).alloc a).heap[w.heap.size]? = some o := by
  rw [Below.heap_alloc _ _ _ (by simp)]
  exact alloc_new' w o
/-- A variable that holds a value; all that lay in W stands. -/
def HoldsAt (x : V) (W : World) (s : Value) (wx : World) : Prop := ∃ (bl : Nat) (fa : Option Addr) (fc : Nat), s = .pointer (some ⟨bl, 0, none⟩) ∧ Boxed wx bl (.int .i64 x.kind) (.int .i64 x.num) (.string x.text) (.slice fa x.list.length fc) ∧ RepV wx.heap.size wx x (.int .i64 x.kind) (.int .i64 x.num) (.string x.text) (.slice fa x.list.length fc) ∧ Below W.heap.size W wx
theorem holds_new {W w3 : World} {S : Nat → Prop} {x : V} {fa : Option Addr} {fc : Nat} (hr : RepG S w3 x (.int .i64 x.kind) (.int .i64 x.num) (.string x.text) (.slice fa x.list.length fc)) (hS : ∀ b, S b → b < w3.heap.size) (hk : Below W.heap.size W w3) :
    HoldsAt x W (.pointer (some ⟨w3.heap.size, 0, none⟩)) (w3.alloc (.cells #[.int .i64 x.kind, .int .i64 x.num, .string x.text, .slice fa x.list.length fc] 24)) :=
  ⟨_, fa, fc, rfl, boxed_new _ _ _ _ _, RepG.on (fun b hb => by have := hS b hb; simp; omega) (fun b hb => Below.heap_alloc _ _ _ (hS b hb)) x hr, hk.alloc hk.size _⟩
theorem holds_set {W w3 : World} {S : Nat → Prop} {bl : Nat} {x : V} {a0 a1 a2 a3 : Value} {fa : Option Addr} {fc : Nat} (hr : RepG S w3 x (.int .i64 x.kind) (.int .i64 x.num) (.string x.text) (.slice fa x.list.length fc)) (hx : Boxed w3 bl a0 a1 a2 a3) (hk : Below W.heap.size W w3) (hS : ∀ b, S b → b < w3.heap.size ∧ b ≠ bl) (hbl : W.heap.size ≤ bl) :
    HoldsAt x W (.pointer (some ⟨bl, 0, none⟩)) ((((w3.setCell ⟨bl, 0, none⟩ (.int .i64 x.kind)).setCell ⟨bl, 1, none⟩ (.int .i64 x.num)).setCell ⟨bl, 2, none⟩ (.string x.text)).setCell ⟨bl, 3, none⟩ (.slice fa x.list.length fc)) :=
  ⟨bl, fa, fc, rfl, heap_setCell_same _ _ _ _ _ _ (heap_setCell_same _ _ _ _ _ _ (heap_setCell_same _ _ _ _ _ _ (heap_setCell_same _ _ _ _ _ _ hx))), RepG.past4 hr bl (fun h => (hS bl h).2 rfl) (fun b h => (hS b h).1) _ _ _ _, stored4 hk bl hbl _ _ _ _⟩
theorem boxCells {W w' : World} {k : Nat} {c0 c1 c2 c3 : Value} (h : Boxed W k c0 c1 c2 c3) (hb : Below W.heap.size W w') : w'.cell? ⟨k, 0, none⟩ = some c0 ∧ w'.cell? ⟨k, 1, none⟩ = some c1 ∧ w'.cell? ⟨k, 2, none⟩ = some c2 ∧ w'.cell? ⟨k, 3, none⟩ = some c3 := (h.on hb).cells
theorem belowAlloc {W w' : World} (hb : Below W.heap.size W w') (o : Obj) : Below W.heap.size W (w'.alloc o) := hb.alloc hb.size o

/-- A variable that holds a list; all that lay in W stands. -/
def HoldsL (X : List V) (W : World) (s : Value) (wx : World) : Prop := ∃ (bl : Nat) (fa : Option Addr) (fc : Nat), s = .pointer (some ⟨bl, 0, none⟩) ∧ Boxed wx bl (.int .i64 4) (.int .i64 0) (.string ⟨#[]⟩) (.slice fa X.length fc) ∧ RepL wx.heap.size wx X (.slice fa X.length fc) ∧ Below W.heap.size W wx
theorem holdsL_new {W w3 : World} {lo : Nat} {X : List V} {fa : Option Addr} {fc : Nat} (hr : RepLG (fun b => lo ≤ b ∧ b < w3.heap.size) w3 X (.slice fa X.length fc)) (hk : Below W.heap.size W w3) :
    HoldsL X W (.pointer (some ⟨w3.heap.size, 0, none⟩)) (w3.alloc (.cells #[.int .i64 4, .int .i64 0, .string ⟨#[]⟩, .slice fa X.length fc] 24)) :=
  ⟨_, fa, fc, rfl, boxed_new _ _ _ _ _, hr.on (fun b hb => by have := hb.2; simp; omega) (fun b hb => Below.heap_alloc _ _ _ hb.2), hk.alloc hk.size _⟩
theorem holdsL_set {W w3 : World} {lo bl : Nat} {X : List V} {a0 a1 a2 a3 : Value} {fa : Option Addr} {fc : Nat} (hx : Boxed w3 bl a0 a1 a2 a3) (hr : RepLG (fun b => lo ≤ b ∧ b < w3.heap.size) w3 X (.slice fa X.length fc)) (hk : Below W.heap.size W w3) (hbl : W.heap.size ≤ bl ∧ bl < lo) :
    HoldsL X W (.pointer (some ⟨bl, 0, none⟩)) ((((w3.setCell ⟨bl, 0, none⟩ (.int .i64 4)).setCell ⟨bl, 1, none⟩ (.int .i64 0)).setCell ⟨bl, 2, none⟩ (.string ⟨#[]⟩)).setCell ⟨bl, 3, none⟩ (.slice fa X.length fc)) := by
  refine ⟨bl, fa, fc, rfl, heap_setCell_same _ _ _ _ _ _ (heap_setCell_same _ _ _ _ _ _ (heap_setCell_same _ _ _ _ _ _ (heap_setCell_same _ _ _ _ _ _ hx))), hr.on (fun b hb => by have := hb.2; simp [World.setCell]; omega) (fun b hb => ?_), stored4 hk bl hbl.1 _ _ _ _⟩
  have h1 : b ≠ bl := by have := hb.1; have := hbl.2; omega
  rw [Below.heap_setCell _ _ _ _ (by simpa using h1), Below.heap_setCell _ _ _ _ (by simpa using h1), Below.heap_setCell _ _ _ _ (by simpa using h1), Below.heap_setCell _ _ _ _ (by simpa using h1)]

/-- What has been laid ahead of the first call. -/
theorem lit_1 (w : World) (o : Obj) : (w.alloc o).drew.heap[w.heap.size]? = some o := alloc_new' w o
theorem lit_2 (w : World) (a o : Obj) : ((w.alloc a).alloc o).drew.heap[w.heap.size + 1]? = some o := alloc_two w a o
theorem lit_u (w : World) (o a : Obj) : ((w.alloc o).alloc a).drew.heap[w.heap.size]? = some o := alloc_under w o a
theorem box_1 (w : World) : Boxed (w.alloc (.cells #[.int .i64 0, .int .i64 0, .string ⟨#[]⟩, .slice none 0 0] 24)).drew w.heap.size (.int .i64 0) (.int .i64 0) (.string ⟨#[]⟩) (.slice none 0 0) := lit_1 w _
theorem box_2 (w : World) (a : Obj) : Boxed ((w.alloc a).alloc (.cells #[.int .i64 0, .int .i64 0, .string ⟨#[]⟩, .slice none 0 0] 24)).drew (w.heap.size + 1) (.int .i64 0) (.int .i64 0) (.string ⟨#[]⟩) (.slice none 0 0) := lit_2 w a _
theorem box_u (w : World) (a : Obj) : Boxed ((w.alloc (.cells #[.int .i64 0, .int .i64 0, .string ⟨#[]⟩, .slice none 0 0] 24)).alloc a).drew w.heap.size (.int .i64 0) (.int .i64 0) (.string ⟨#[]⟩) (.slice none 0 0) := lit_u w _ a
theorem b1 (w : World) (o : Obj) : Below w.heap.size w (w.alloc o) := stands_alloc w o
theorem d0 (w : World) : Below w.heap.size w w.drew := Below.drew (Below.refl _ _)
theorem d1 (w : World) (o : Obj) : Below w.heap.size w (w.alloc o).drew := Below.drew (stands_alloc _ _)
theorem d2 (w : World) (a o : Obj) : Below w.heap.size w ((w.alloc a).alloc o).drew := Below.drew (stands_two _ _ _)
theorem keep_lit {w w' : World} {k : Nat} {o : Obj} (h : w.heap[k]? = some o) (hb : Below w.heap.size w w') : w'.heap[k]? = some o := (hb.block k (Array.getElem?_eq_some_iff.1 h).1).trans h
theorem new_lit (w : World) (o : Obj) : (w.alloc o).heap[w.heap.size]? = some o := alloc_new' w o
theorem box_new (w : World) : Boxed (w.alloc (.cells #[.int .i64 0, .int .i64 0, .string ⟨#[]⟩, .slice none 0 0] 24)) w.heap.size (.int .i64 0) (.int .i64 0) (.string ⟨#[]⟩) (.slice none 0 0) := alloc_new' w _
theorem box_two (w : World) (a : Obj) : Boxed ((w.alloc a).alloc (.cells #[.int .i64 0, .int .i64 0, .string ⟨#[]⟩, .slice none 0 0] 24)) (w.heap.size + 1) (.int .i64 0) (.int .i64 0) (.string ⟨#[]⟩) (.slice none 0 0) := alloc_two w a _
theorem box_und (w : World) (a : Obj) : Boxed ((w.alloc (.cells #[.int .i64 0, .int .i64 0, .string ⟨#[]⟩, .slice none 0 0] 24)).alloc a) w.heap.size (.int .i64 0) (.int .i64 0) (.string ⟨#[]⟩) (.slice none 0 0) := alloc_under w _ a

/-- The new variable, ahead of its store. -/
theorem bx_keep {w w' : World} {k : Nat} (h : Boxed w k (.int .i64 0) (.int .i64 0) (.string ⟨#[]⟩) (.slice none 0 0)) (e : w'.heap[k]? = w.heap[k]?) : Boxed w' k (.int .i64 0) (.int .i64 0) (.string ⟨#[]⟩) (.slice none 0 0) := e.trans h

/-- The call's own row holds copies of a list whose elements' lists lie below B; its block is one of lo .. hi - 1. -/
def Copy (B : Nat) (w : World) (l : List V) (v : Value) (lo hi : Nat) : Prop := OwnL (fun b => b < B) w lo l v ∧ (B ≤ lo ∧ lo ≤ hi) ∧ hi ≤ w.heap.size ∧ ∀ k, v.ownBlock = some k → lo ≤ k ∧ k < hi
theorem Copy.on {B : Nat} {w w' : World} {l : List V} {v : Value} {lo hi : Nat} (h : Copy B w l v lo hi) (hb : Below w.heap.size w w') (hB : B ≤ w.heap.size) : Copy B w' l v lo hi :=
  ⟨h.1.stands (fun _k hk => ⟨hk, Nat.lt_of_lt_of_le hk hB⟩) hb, h.2.1, Nat.le_trans h.2.2.1 hb.size, h.2.2.2⟩

/-- A step that runs an append, as it is known to run. -/
theorem step_by {P : Program} {ops : Array Oper} {o : Oper} {a : Act} {w : World} {K : Act → World → Prop} {Q : Exit → Act → World → Prop} {E : Prop} (hgd : o.guard = none) (s x : Operand) (t : TypeId)
    (ho : o.op = .call { callee := .builtin .append, args := #[s, x], argTypes := #[t, t] }) {v xv : Value} (hs : a.eval s = v) (hx : a.eval x = xv)
    (h : ∃ v' w', (Builtin.append_ #[t, t] o.type #[v, xv]).run P w = .ok v' w' ∧ K (a.put o.dst v') w') : if Region.wanted o (yielded ops a.tmps) = true then Oper.wp P o a w K Q else E := by
  obtain ⟨v', w', hrun, hk⟩ := h
  exact step_append_by hgd s x t ho hs hx hrun hk

/-- 'append(nil, c...)'. -/
theorem step_copy {ops : Array Oper} {o : Oper} {a : Act} {w : World} {K : Act → World → Prop} {Q : Exit → Act → World → Prop} {E : Prop} (hgd : o.guard = none) (s x : Operand)
    (ho : o.op = .call { callee := .builtin .append, args := #[s, x], argTypes := #[22, 22] }) {xv : Value} (hs : a.eval s = .slice none 0 0) (hx : a.eval x = xv)
    {w0 : World} {L : List V} (hrep : RepL w0.heap.size w0 L xv) (hb : Below w0.heap.size w0 w) (hlen : L.length ≤ 1000)
    (h : ∀ va vc w', Copy w0.heap.size w' L (.slice va L.length vc) w.heap.size w'.heap.size → Below w.heap.size w w' → K (a.put o.dst (.slice va L.length vc)) w') :
    if Region.wanted o (yielded ops a.tmps) = true then Oper.wp Tryd.prog o a w K Q else E := by
  refine step_by hgd s x _ ho hs hx ?_
  have hm : RepLG (fun b => b < w0.heap.size) w L xv := hrep.on (fun _ h => h) (fun k hk => hb.block k hk)
  obtain ⟨v', w', hrun, hown, hg, hv⟩ := append_run w w.heap.size o.type (OwnL.nil (fun b => b < w0.heap.size) w w.heap.size) hm (fun k hk => ⟨Nat.lt_of_lt_of_le hk hb.size, by simp [Value.ownBlock]⟩) (by simp; omega) (Nat.le_refl _)
  rw [List.nil_append] at hown
  obtain ⟨va, vc, rfl⟩ := hown.form
  exact ⟨_, w', hrun, h va vc w' ⟨hown, ⟨hb.size, hg.size⟩, Nat.le_refl _, fun k hk => hown.lies k hk⟩ ⟨hg.os, hg.tape, hg.output, hg.size, fun k hk => hg.block k hk (by simp [Value.ownBlock])⟩⟩

/-- 'append(c, a)', a just laid. -/
theorem step_more {ops : Array Oper} {o : Oper} {a : Act} {w : World} {K : Act → World → Prop} {Q : Exit → Act → World → Prop} {E : Prop} (hgd : o.guard = none) (s x : Operand)
    (ho : o.op = .call { callee := .builtin .append, args := #[s, x], argTypes := #[22, 22] }) {sv : Value} {lb : Nat} (hs : a.eval s = sv) (hx : a.eval x = .slice (some ⟨lb, 0, none⟩) 1 1)
    {w0 : World} {L : List V} {lo hi : Nat} (hcopy : Copy w0.heap.size w L sv lo hi) (hb : Below w0.heap.size w0 w) {y : V} {c0 c1 c2 c3 : Value} (hlit : w.heap[lb]? = some (.cells #[c0, c1, c2, c3] 24 (0, 0))) (hlb : lb < lo ∨ hi ≤ lb)
    (hy : RepV w0.heap.size w0 y c0 c1 c2 c3) (hlen : L.length ≤ 1000) {X : List V} (hX : X = L ++ [y])
    (h : ∀ va vc w', RepL w'.heap.size w' X (.slice va X.length vc) → Below w0.heap.size w0 w' → (∀ k, k < w.heap.size → (k < lo ∨ hi ≤ k) → w'.heap[k]? = w.heap[k]?) → w.heap.size ≤ w'.heap.size → K (a.put o.dst (.slice va X.length vc)) w') :
    if Region.wanted o (yielded ops a.tmps) = true then Oper.wp Tryd.prog o a w K Q else E := by
  subst hX
  refine step_by hgd s x _ ho hs hx ?_
  obtain ⟨hown, h1, h2, h3⟩ := hcopy
  have hlw : lb < w.heap.size := (Array.getElem?_eq_some_iff.1 hlit).1
  have hl : OwnL (fun b => b < w.heap.size ∧ sv.ownBlock ≠ some b) w lo L sv := hown.on (fun k hk => ⟨Nat.lt_of_lt_of_le hk hb.size, fun e => by have := h3 k e; omega⟩) (fun _ _ => rfl) (fun _ _ _ _ => rfl)
  have hne : sv.ownBlock ≠ some lb := fun e => by have := h3 lb e; omega
  have hrow : RepRow (fun b => b < w.heap.size ∧ sv.ownBlock ≠ some b) w [y] #[c0, c1, c2, c3] := by
    intro i hi
    obtain rfl : i = 0 := by simpa using hi
    exact ⟨c0, c1, c2, c3, rfl, rfl, rfl, rfl, RepG.on (fun k hk => ⟨Nat.lt_of_lt_of_le hk hb.size, fun e => by have := h3 k e; omega⟩) (fun k hk => hb.block k hk) y hy⟩
  have hsl := hrow.slice hlit ⟨hlw, hne⟩ (Nat.le_refl 1) (by simp)
  have hlo : lo ≤ w.heap.size := by omega
  obtain ⟨v', w', hrun, ho', hg, hv⟩ := append_run w lo o.type hl hsl (fun k hk => hk) (by simp; omega) hlo
  obtain ⟨va, vc, rfl⟩ := ho'.form
  refine ⟨_, w', hrun, h va vc w' (ho'.rep (fun k hk => Nat.lt_of_lt_of_le hk.1 hg.size) (fun _ _ h => h) (by simp; omega)) ?_ ?_ hg.size⟩
  · exact hb.trans ⟨hg.os, hg.tape, hg.output, by have := hg.size; have := hb.size; omega, fun k hk => hg.block k (Nat.lt_of_lt_of_le hk hb.size) (fun e => by have := h3 k e.symm; omega)⟩
  · exact fun k hk hk2 => hg.block k hk (fun e => by have := h3 k e.symm; omega)

theorem own_rep {S S' : Nat → Prop} {w : World} {base : Nat} {l : List V} {v : Value} (h : OwnL S w base l v) (hS : ∀ k, S k → S' k) (hg : ∀ g, v.ownBlock = some g → S' g) (hb : l.length * 56 ≤ 140737488355328) : RepLG S' w l v := by
  obtain ⟨xs, ⟨hlen, hown⟩, hr⟩ := h
  rcases hown with ⟨rfl, hn⟩ | ⟨g, cap, cur, rfl, hbg, hh, hnc, hcm, hcs, htk⟩
  · obtain rfl : l = [] := List.length_eq_zero_iff.1 hn
    exact ⟨none, 0, 0, 0, rfl, Nat.le_refl _, by simp, fun h => by omega, fun h => by simp at h, fun i hi => by simp at hi⟩
  · have hr' : RepRow S w l cur := by
      intro i hi
      obtain ⟨z0, z1, z2, z3, g0, g1, g2, g3, gg⟩ := hr i hi
      have key : ∀ j v, j < l.length * 4 → xs.toArray[j]? = some v → cur[j]? = some v := by
        intro j v hj hv
        rw [List.getElem?_toArray, ← htk, List.getElem?_take, if_pos hj] at hv
        rw [← Array.getElem?_toList]; exact hv
      exact ⟨z0, z1, z2, z3, key _ _ (by omega) g0, key _ _ (by omega) g1, key _ _ (by omega) g2, key _ _ (by omega) g3, gg⟩
    exact (hr'.on hS (fun _ _ => rfl)).slice hh (hg g rfl) hnc hb

/-- 'append([]T{b}, more...)', b just laid. -/
theorem step_onto {ops : Array Oper} {o : Oper} {a : Act} {w : World} {K : Act → World → Prop} {Q : Exit → Act → World → Prop} {E : Prop} (hgd : o.guard = none) (s x : Operand)
    (ho : o.op = .call { callee := .builtin .append, args := #[s, x], argTypes := #[22, 22] }) {xv : Value} {lb : Nat} (hs : a.eval s = .slice (some ⟨lb, 0, none⟩) 1 1) (hx : a.eval x = xv)
    {w0 : World} {L : List V} {cv : Value} {lo hi : Nat} (hcopy : Copy w0.heap.size w L cv lo hi) (hb : Below w0.heap.size w0 w) {y : V} {c0 c1 c2 c3 : Value} (hlit : w.heap[lb]? = some (.cells #[c0, c1, c2, c3] 24 (0, 0))) (hlb : lb < lo ∨ hi ≤ lb) (h0 : w0.heap.size ≤ lb)
    (hy : RepV w0.heap.size w0 y c0 c1 c2 c3) {more : List V} (hm : RepL w0.heap.size w0 more xv) (hlen : (1 + more.length) * 56 ≤ 140737488355328)
    (h : ∀ va vc w', RepLG (fun k => k < w'.heap.size ∧ (k < lo ∨ hi ≤ k)) w' (y :: more) (.slice va (y :: more).length vc) → Copy w0.heap.size w' L cv lo hi → (∀ k, k < w.heap.size → k ≠ lb → w'.heap[k]? = w.heap[k]?) → Below w0.heap.size w0 w' → w.heap.size ≤ w'.heap.size → K (a.put o.dst (.slice va (y :: more).length vc)) w') :
    if Region.wanted o (yielded ops a.tmps) = true then Oper.wp Tryd.prog o a w K Q else E := by
  refine step_by hgd s x _ ho hs hx ?_
  obtain ⟨hown, h1, h2, h3⟩ := hcopy
  have hlw : lb < w.heap.size := (Array.getElem?_eq_some_iff.1 hlit).1
  have hrow : RepRow (fun b => b < w0.heap.size) w [y] [c0, c1, c2, c3].toArray := by
    intro i hi
    obtain rfl : i = 0 := by simpa using hi
    exact ⟨c0, c1, c2, c3, rfl, rfl, rfl, rfl, RepG.on (fun k hk => hk) (fun k hk => hb.block k hk) y hy⟩
  have hl : OwnL (fun b => b < w0.heap.size) w lb [y] (.slice (some ⟨lb, 0, none⟩) 1 1) := ⟨[c0, c1, c2, c3], ⟨rfl, .inr ⟨lb, 1, #[c0, c1, c2, c3], rfl, Nat.le_refl _, hlit, Nat.le_refl _, by unfold maxLen; omega, rfl, rfl⟩⟩, hrow⟩
  have hm' : RepLG (fun b => b < w0.heap.size) w more xv := hm.on (fun _ h => h) (fun k hk => hb.block k hk)
  obtain ⟨v', w', hrun, ho', hg, hv⟩ := append_run w lb o.type hl hm' (fun k hk => ⟨Nat.lt_of_lt_of_le hk hb.size, fun e => by have e2 : lb = k := Option.some.inj e; have hk' : k < w0.heap.size := hk; omega⟩) (by simpa using hlen) (by omega)
  obtain ⟨va, vc, rfl⟩ := ho'.form
  have hsz := hg.size
  have hst : ∀ k, k < w.heap.size → k ≠ lb → w'.heap[k]? = w.heap[k]? := fun k hk hne => hg.block k hk (fun e => hne (Option.some.inj e))
  have hlies := fun k hk => ho'.lies k hk
  refine ⟨_, w', hrun, h va vc w' (own_rep ho' (fun k hk => by have hk' : k < w0.heap.size := hk; have := hb.size; exact ⟨by omega, by omega⟩) (fun g hg' => ⟨(hlies g hg').2, ?_⟩) (by simpa [Nat.add_comm] using hlen)) ⟨?_, h1, by omega, h3⟩ hst ?_ hsz⟩
  · rcases hv with e | e
    · have e2 : g = lb := Option.some.inj (hg'.symm.trans e)
      omega
    · have e2 : g = w.heap.size := Option.some.inj (hg'.symm.trans e)
      omega
  · exact hown.on (fun k hk => hk) (fun k hk => hst k (Nat.lt_of_lt_of_le hk hb.size) (by omega)) (fun k _ hk2 e => hst k hk2 (fun e2 => by have := h3 k e; omega))
  · exact hb.trans ⟨hg.os, hg.tape, hg.output, by have := hb.size; omega, fun k hk => hst k (Nat.lt_of_lt_of_le hk hb.size) (by omega)⟩

theorem rep_apart {w w' : World} {M : List V} {v : Value} {lo hi : Nat} (h : RepLG (fun k => k < w.heap.size ∧ (k < lo ∨ hi ≤ k)) w M v) (hb : Below w.heap.size w w') : RepLG (fun k => k < w'.heap.size ∧ (k < lo ∨ hi ≤ k)) w' M v :=
  h.on (fun _k hk => ⟨Nat.lt_of_lt_of_le hk.1 hb.size, hk.2⟩) (fun k hk => hb.block k hk.1)
theorem rep_up {w w' : World} {M : List V} {v : Value} (h : RepL w.heap.size w M v) (hb : Below w.heap.size w w') : RepL w'.heap.size w' M v := (RepL.below (fun j hj => hb.block j hj) h).up hb.size

/-- 'append(c, l...)', l anywhere but in c's own row. -/
theorem step_join {ops : Array Oper} {o : Oper} {a : Act} {w : World} {K : Act → World → Prop} {Q : Exit → Act → World → Prop} {E : Prop} (hgd : o.guard = none) (s x : Operand)
    (ho : o.op = .call { callee := .builtin .append, args := #[s, x], argTypes := #[22, 22] }) {sv xv : Value} (hs : a.eval s = sv) (hx : a.eval x = xv)
    {w0 : World} {L M : List V} {lo hi : Nat} (hcopy : Copy w0.heap.size w L sv lo hi) (hb : Below w0.heap.size w0 w) (hm : RepLG (fun k => k < w.heap.size ∧ (k < lo ∨ hi ≤ k)) w M xv) (hlen : (L.length + M.length) * 56 ≤ 140737488355328) {Y : List V} (hY : Y = L ++ M)
    (h : ∀ va vc w', RepL w'.heap.size w' Y (.slice va Y.length vc) → Below w0.heap.size w0 w' → (∀ k, k < w.heap.size → (k < lo ∨ hi ≤ k) → w'.heap[k]? = w.heap[k]?) → w.heap.size ≤ w'.heap.size → K (a.put o.dst (.slice va Y.length vc)) w') :
    if Region.wanted o (yielded ops a.tmps) = true then Oper.wp Tryd.prog o a w K Q else E := by
  subst hY
  refine step_by hgd s x _ ho hs hx ?_
  obtain ⟨hown, h1, h2, h3⟩ := hcopy
  have hl : OwnL (fun b => b < w.heap.size ∧ sv.ownBlock ≠ some b) w lo L sv := hown.on (fun k hk => ⟨Nat.lt_of_lt_of_le hk hb.size, fun e => by have := h3 k e; omega⟩) (fun _ _ => rfl) (fun _ _ _ _ => rfl)
  have hm' : RepLG (fun b => b < w.heap.size ∧ sv.ownBlock ≠ some b) w M xv := hm.on (fun k hk => ⟨hk.1, fun e => by have := h3 k e; omega⟩) (fun _ _ => rfl)
  obtain ⟨v', w', hrun, ho', hg, hv⟩ := append_run w lo o.type hl hm' (fun k hk => hk) hlen (by omega)
  obtain ⟨va, vc, rfl⟩ := ho'.form
  refine ⟨_, w', hrun, h va vc w' (ho'.rep (fun k hk => Nat.lt_of_lt_of_le hk.1 hg.size) (fun _ _ h => h) (by simpa using hlen)) ?_ ?_ hg.size⟩
  · exact hb.trans ⟨hg.os, hg.tape, hg.output, by have := hg.size; have := hb.size; omega, fun k hk => hg.block k (Nat.lt_of_lt_of_le hk hb.size) (fun e => by have := h3 k e.symm; omega)⟩
  · exact fun k hk hk2 => hg.block k hk (fun e => by have := h3 k e.symm; omega)

end Go.Proofs.YtaomlkglodeaoaaDoor.valueLists
