/-
  For the document's own Call: arguments where they lie, what it answers, and when it answers nothing.
-/
import Derived.Test.YtaomlkglodeaoaaDoorW17
import Derived.Test.YtaomlkglodeaoaaDoorW14
import Derived.Test.YtaomlkglodeaoaaDoorW15
import Derived.Deep.RegionHeld3
import Derived.Deep.DeepCutAuto
import Derived.Handy
namespace Go.Proofs.YtaomlkglodeaoaaDoor
open Go.RowKit

/-- What the document's Call answers. -/
def RefPost (B : Nat → Prop) (r : Option V) (w : World) (e : Ending) (w' : World) : Prop := ∃ c0 c1 c2 c3, e = .returned (.tuple #[.agg #[c0, c1, c2, c3], .bool r.isSome]) ∧ RepG (fun k => B k ∨ (w.heap.size < k ∧ k < w'.heap.size)) w' (r.getD zeroV) c0 c1 c2 c3 ∧ Below w.heap.size w w'

/-- An argument where it lies. -/
structure ArgAt (w : World) (B : Nat → Prop) (b o : Nat) (x : V) (fa : Option Addr) (fc : Nat) : Prop where
  c0 : w.cell? ⟨b, o, none⟩ = some (.int .i64 x.kind)
  c1 : w.cell? ⟨b, o + 1, none⟩ = some (.int .i64 x.num)
  c2 : w.cell? ⟨b, o + 2, none⟩ = some (.string x.text)
  c3 : w.cell? ⟨b, o + 3, none⟩ = some (.slice fa x.list.length fc)
  rep : RepG B w x (.int .i64 x.kind) (.int .i64 x.num) (.string x.text) (.slice fa x.list.length fc)
  lt : B b
theorem ArgAt.on {w w' : World} {B : Nat → Prop} {b o : Nat} {x : V} {fa : Option Addr} {fc : Nat} (h : ArgAt w B b o x fa fc) (hB : Under B w.heap.size) (hb : Below w.heap.size w w') : ArgAt w' B b o x fa fc := by
  have hl : b < w.heap.size := hB.lt b h.lt
  exact ⟨(hb.cell (p := ⟨b, o, none⟩) hl).trans h.c0, (hb.cell (p := ⟨b, o + 1, none⟩) hl).trans h.c1, (hb.cell (p := ⟨b, o + 2, none⟩) hl).trans h.c2, (hb.cell (p := ⟨b, o + 3, none⟩) hl).trans h.c3, RepG.on (fun _ h => h) (fun k hk => hb.block k (hB.lt k hk)) x h.rep, h.lt⟩
theorem ArgAt.cells {w : World} {B : Nat → Prop} {b o : Nat} {x : V} {fa : Option Addr} {fc : Nat} (h : ArgAt w B b o x fa fc) : w.cell? ⟨b, o, none⟩ = some (.int .i64 x.kind) ∧ w.cell? ⟨b, o + 1, none⟩ = some (.int .i64 x.num) ∧ w.cell? ⟨b, o + 2, none⟩ = some (.string x.text) ∧ w.cell? ⟨b, o + 3, none⟩ = some (.slice fa x.list.length fc) := ⟨h.c0, h.c1, h.c2, h.c3⟩
theorem ArgAt.cellsL {w : World} {B : Nat → Prop} {b o : Nat} {l : List V} {fa : Option Addr} {fc : Nat} (h : ArgAt w B b o (listV l) fa fc) : w.cell? ⟨b, o, none⟩ = some (.int .i64 4) ∧ w.cell? ⟨b, o + 1, none⟩ = some (.int .i64 0) ∧ w.cell? ⟨b, o + 2, none⟩ = some (.string ⟨#[]⟩) ∧ w.cell? ⟨b, o + 3, none⟩ = some (.slice fa l.length fc) := ⟨h.c0, h.c1, h.c2, h.c3⟩
theorem ArgAt.repL {w : World} {B : Nat → Prop} {b o : Nat} {l : List V} {fa : Option Addr} {fc : Nat} (h : ArgAt w B b o (listV l) fa fc) : RepG B w (listV l) (.int .i64 4) (.int .i64 0) (.string ⟨#[]⟩) (.slice fa l.length fc) := h.rep
theorem RepG.lst' {S : Nat → Prop} {w : World} {l : List V} {c0 c1 c2 c3 : Value} (h : RepG S w (listV l) c0 c1 c2 c3) : RepLG S w l c3 := by
  rw [listV, repG_mk] at h
  exact h.2.2.2.2.2.2
theorem ArgAt.lst {w : World} {B : Nat → Prop} {b o : Nat} {l : List V} {fa : Option Addr} {fc : Nat} (h : ArgAt w B b o (listV l) fa fc) : RepLG B w l (.slice fa l.length fc) := RepG.lst' h.rep
theorem arg_one {B : Nat → Prop} {w : World} {x : V} {a : Value} (ha : RepLG B w [x] a) : ∃ (b o cap : Nat) (fa : Option Addr) (fc : Nat), a = .slice (some ⟨b, o, none⟩) 1 cap ∧ 1 ≤ cap ∧ ArgAt w B b o x fa fc := by
  obtain ⟨aa, ab, ao, ac, rfl, -⟩ := id ha
  obtain ⟨-, hcap, b, o, fa, fc, rfl, hSb, g0, g1, g2, g3, g⟩ := RepLG.at ha 0 (by simp)
  simp only [List.getElem_cons_zero, Nat.zero_mul, Nat.add_zero, List.length_cons, List.length_nil, Nat.zero_add] at g0 g1 g2 g3 g hcap
  exact ⟨b, o, ac, fa, fc, rfl, hcap, g0, g1, g2, g3, g, hSb⟩
theorem arg_two {B : Nat → Prop} {w : World} {x y : V} {a : Value} (ha : RepLG B w [x, y] a) : ∃ (b o cap : Nat) (fa : Option Addr) (fc : Nat) (ga : Option Addr) (gc : Nat), a = .slice (some ⟨b, o, none⟩) 2 cap ∧ 2 ≤ cap ∧ ArgAt w B b o x fa fc ∧ ArgAt w B b (o + 4) y ga gc := by
  obtain ⟨aa, ab, ao, ac, rfl, -⟩ := id ha
  obtain ⟨-, hcap, b, o, fa, fc, rfl, hSb, g0, g1, g2, g3, g⟩ := RepLG.at ha 0 (by simp)
  obtain ⟨-, -, b', o', ga, gc, e', -, e0, e1, e2, e3, g'⟩ := RepLG.at ha 1 (by simp)
  cases e'
  simp only [List.getElem_cons_zero, List.getElem_cons_succ, Nat.zero_mul, Nat.one_mul, Nat.add_zero, List.length_cons, List.length_nil, Nat.zero_add, Nat.reduceAdd] at g0 g1 g2 g3 g e0 e1 e2 e3 g' hcap
  exact ⟨b, o, ac, fa, fc, ga, gc, rfl, hcap, ⟨g0, g1, g2, g3, g, hSb⟩, e0, e1, e2, e3, g', hSb⟩

theorem refRight_at (x : V) (B : Nat → Prop) (w : World) (c0 c1 c2 c3 : Value) (hB : Under B w.heap.size) (hx : RepG B w x c0 c1 c2 c3) :
    Calls Tryd.prog 25 #[.agg #[c0, c1, c2, c3]] w fun e w' => e = .returned (.bool (rightV 4 x)) ∧ Below w.heap.size w w' :=
  refRight_any x w.heap.size w c0 c1 c2 c3 (Nat.le_refl _) (RepG.on (fun k hk => hB.lt k hk) (fun _ _ => rfl) x hx)
theorem fn_text {s : ByteArray} {k : Nat} (hk : k < 9) (h : fnOf s = k) : s.toList = fname k := by
  unfold fnOf at h
  split at h
  · subst h; rename_i e; simpa [fname] using e
  split at h
  · subst h; rename_i e; simpa [fname] using e
  split at h
  · subst h; rename_i e; simpa [fname] using e
  split at h
  · subst h; rename_i e; simpa [fname] using e
  split at h
  · subst h; rename_i e; simpa [fname] using e
  split at h
  · subst h; rename_i e; simpa [fname] using e
  split at h
  · subst h; rename_i e; simpa [fname] using e
  split at h
  · subst h; rename_i e; simpa [fname] using e
  split at h
  · subst h; rename_i e; simpa [fname] using e
  · omega
theorem fn_not_cons {s : ByteArray} (h : fnOf s ≠ 0) : (s.toList == [102, 95, 99, 111, 110, 115]) = false := by
  cases e : (s.toList == [102, 95, 99, 111, 110, 115]) with
  | false => rfl
  | true => exact absurd (by unfold fnOf; rw [e]; rfl) h

theorem call_none {k : Nat} {args : List V} (h : ¬ takesB k args = true) : callV k args = none := by
  unfold callV; rw [if_neg (fun h' => h h'.1)]
theorem call_arity {k : Nat} {args : List V} (h : ¬ fnArity k = (args.length : Int)) : callV k args = none := call_none fun ht => h (takes_right ht).2.symm
theorem call_wrong {k : Nat} {args : List V} {x : V} (hx : x ∈ args) (h : rightV 4 x = false) : callV k args = none := call_none fun ht => by
  have := (takes_right ht).1 x hx
  rw [h] at this; cases this
theorem takes_kind1 {k : Nat} {x : V} (h : takesB k [x] = true) : x.kind = 4 := by
  have hk := takes_lt h
  match k, hk, h with
  | 0, _, h => simp [takesB, fnArity] at h
  | 1, _, h => simp [takesB, fnArity] at h
  | 2, _, h => simp [takesB, fnArity] at h
  | 3, _, h => simp [takesB, fnArity] at h
  | 4, _, h => simp [takesB, fnArity, fnList, argB] at h; exact h.2
  | 5, _, h => simp [takesB, fnArity, fnList, argB] at h; exact h.2
  | 6, _, h => simp [takesB, fnArity, fnList, argB] at h; exact h.2
  | 7, _, h => simp [takesB, fnArity, fnList, argB] at h; exact h.2
  | 8, _, h => simp [takesB, fnArity, fnList, argB] at h; exact h.2
theorem takes_kind2 {k : Nat} {x y : V} (h : takesB k [x, y] = true) : (k ≠ 0 → x.kind = 4) ∧ (k = 0 ∨ k = 2 → y.kind = 4) := by
  have hk := takes_lt h
  match k, hk, h with
  | 0, _, h => simp [takesB, fnArity, fnList, argB] at h; exact ⟨fun h => absurd rfl h, fun _ => h.2.2⟩
  | 1, _, h => simp [takesB, fnArity, fnList, argB] at h; exact ⟨fun _ => h.1.2, fun h => by omega⟩
  | 2, _, h => simp [takesB, fnArity, fnList, argB] at h; exact ⟨fun _ => h.1.2, fun _ => h.2.2⟩
  | 3, _, h => simp [takesB, fnArity, fnList, argB] at h; exact ⟨fun _ => h.1.2, fun h => by omega⟩
  | 4, _, h => simp [takesB, fnArity] at h
  | 5, _, h => simp [takesB, fnArity] at h
  | 6, _, h => simp [takesB, fnArity] at h
  | 7, _, h => simp [takesB, fnArity] at h
  | 8, _, h => simp [takesB, fnArity] at h
theorem no_bytes {s : ByteArray} (h : s.toList.isEmpty = true) : s = ⟨#[]⟩ := by
  rw [isEmpty_size] at h
  have h0 : s.size = 0 := by simpa using h
  exact ByteArray.ext (Array.eq_empty_of_size_eq_zero h0)
theorem right_is_list {x : V} (h : rightV 4 x = true) (hk : x.kind = 4) : ∃ l, x = listV l ∧ All3 l ∧ l.length ≤ 16 := by
  cases x with
  | mk k n s l =>
    rw [rightV_mk] at h
    rcases baseB_cases h with ⟨rfl, h1, rfl, h2, h3⟩ | ⟨rfl, rfl, rfl, h1⟩ | ⟨rfl, rfl, rfl, h1⟩ | ⟨rfl, rfl, h1, h2⟩
    · exact absurd hk (by show ¬ (1 : Int) = 4; decide)
    · exact absurd hk (by show ¬ (2 : Int) = 4; decide)
    · exact absurd hk (by show ¬ (3 : Int) = 4; decide)
    · have hs : s = ⟨#[]⟩ := no_bytes h1
      subst hs
      have h3 : rightV 4 (listV l) = true := by rw [listV, rightV_mk]; exact h
      rw [right_listV, Bool.and_eq_true, decide_eq_true_eq, List.all_eq_true] at h3
      exact ⟨l, rfl, h3.2, h3.1⟩
theorem call_both {k : Nat} {args X : List V} (ht : takesB k args = true) (hd : doV k args = listV X) : callV k args = if rightV 4 (listV X) = true then some (listV X) else none := by
  unfold callV; rw [hd, ht]; simp

theorem list_two_yes {X : List V} (hr : rightV 4 (listV X) = true) (l m : List V) (hX : X = l ++ m) (B : Nat → Prop) (w : World) (sa sb : Value) (b : Nat) (hB : Under B w.heap.size) (hb : w.heap[b]? = some (.cells #[sa, sb] 22 (0, 0))) (ha : RepLG B w l sa) (hm : RepLG B w m sb) (hl1 : l.length ≤ 100) (hm1 : m.length ≤ 100) :
    Calls Tryd.prog 26 #[.slice (some ⟨b, 0, none⟩) 2 2] w fun e w' => ∃ (ra : Option Addr) (rn rc : Nat), e = .returned (.tuple #[.agg #[.int .i64 4, .int .i64 0, .string ⟨#[]⟩, .slice ra rn rc], .bool true]) ∧ RepLG (fun k => B k ∨ (w.heap.size < k ∧ k < w'.heap.size)) w' X (.slice ra rn rc) ∧ Below w.heap.size w w' :=
  (refList_two l m X hX B w sa sb b hB hb ha hm hl1 hm1).mono fun e w' ⟨ra, rn, rc, he, h1, h2⟩ => ⟨ra, rn, rc, by rw [he, hr]; rfl, h1, h2⟩
theorem list_two_no {X : List V} (hr : rightV 4 (listV X) = false) (l m : List V) (hX : X = l ++ m) (B : Nat → Prop) (w : World) (sa sb : Value) (b : Nat) (hB : Under B w.heap.size) (hb : w.heap[b]? = some (.cells #[sa, sb] 22 (0, 0))) (ha : RepLG B w l sa) (hm : RepLG B w m sb) (hl1 : l.length ≤ 100) (hm1 : m.length ≤ 100) :
    Calls Tryd.prog 26 #[.slice (some ⟨b, 0, none⟩) 2 2] w fun e w' => e = .returned (.tuple #[.agg #[.int .i64 0, .int .i64 0, .string ⟨#[]⟩, .slice none 0 0], .bool false]) ∧ Below w.heap.size w w' :=
  (refList_two l m X hX B w sa sb b hB hb ha hm hl1 hm1).mono fun e w' ⟨ra, rn, rc, he, h1, h2⟩ => ⟨by rw [he, hr]; rfl, h2⟩

/-- What the result's own box holds behind the last stores. -/
theorem ref_none {B : Nat → Prop} {w wz : World} (hb : Below w.heap.size w wz) (c0 c1 c2 c3 : Value) : RefPost B none w (.returned (.tuple #[zeroCells, .bool false])) ((((wz.setCell ⟨w.heap.size, 0, none⟩ c0).setCell ⟨w.heap.size, 1, none⟩ c1).setCell ⟨w.heap.size, 2, none⟩ c2).setCell ⟨w.heap.size, 3, none⟩ c3) :=
  ⟨_, _, _, _, rfl, rep_zero, stored4 hb _ (Nat.le_refl _) _ _ _ _⟩
theorem ref_some {B : Nat → Prop} {w wz : World} (hB : Under B w.heap.size) {x : V} {c0 c1 c2 c3 : Value} (hb : Below w.heap.size w wz) (hr : RepG (fun k => B k ∨ (w.heap.size < k ∧ k < wz.heap.size)) wz x c0 c1 c2 c3) (d0 d1 d2 d3 : Value) :
    RefPost B (some x) w (.returned (.tuple #[.agg #[c0, c1, c2, c3], .bool true])) ((((wz.setCell ⟨w.heap.size, 0, none⟩ d0).setCell ⟨w.heap.size, 1, none⟩ d1).setCell ⟨w.heap.size, 2, none⟩ d2).setCell ⟨w.heap.size, 3, none⟩ d3) := by
  refine ⟨_, _, _, _, rfl, ?_, stored4 hb _ (Nat.le_refl _) _ _ _ _⟩
  have hs := hb.size
  refine RepG.on (fun j hj => ?_) (fun j hj => ?_) x hr
  · simp [World.setCell]; exact hj
  · have h1 : j ≠ w.heap.size := by
      rcases hj with h | h
      · have := hB.lt j h; omega
      · omega
    rw [Below.heap_setCell _ _ _ _ (by simpa using h1), Below.heap_setCell _ _ _ _ (by simpa using h1), Below.heap_setCell _ _ _ _ (by simpa using h1), Below.heap_setCell _ _ _ _ (by simpa using h1)]

end Go.Proofs.YtaomlkglodeaoaaDoor

/-
  The document's own Call, where it answers nothing ahead of the names.
-/
namespace Go.Proofs.YtaomlkglodeaoaaDoor
open Go.RowKit

set_option maxRecDepth 100000 in
set_option maxHeartbeats 4000000 in
theorem ref_arity (s : ByteArray) (args : List V) (B : Nat → Prop) (w : World) (a : Value) (_hB : Under B w.heap.size) (ha : RepLG B w args a) (h : ¬ fnArity (fnOf s) = (args.length : Int)) :
    Calls Tryd.prog 6 #[.string s, a] w (RefPost B (callV (fnOf s) args) w) := by
  have HC := Lib.hid (call_arity h)
  obtain ⟨aa, ab, ao, ac, rfl, -⟩ := ha
  go_enter Tryd.func6, Tryd.ntmps6
  go_wp2_with fail
  have k1 := boxed_new w (.int .i64 0) (.int .i64 0) (.string ⟨#[]⟩) (.slice none 0 0)
  have b1 := stands_alloc w (.cells #[.int .i64 0, .int .i64 0, .string ⟨#[]⟩, .slice none 0 0] 24)
  generalize w.alloc (.cells #[.int .i64 0, .int .i64 0, .string ⟨#[]⟩, .slice none 0 0] 24) = w1 at *
  have K1 := Lib.hid k1; have B1 := Lib.hid b1
  clear k1 b1
  refine (refArity_any s _).mono ?_
  rintro e w' ⟨rfl, rfl⟩
  generalize fnArity (fnOf s) = ar at *
  generalize args.length = n at *
  obtain ⟨t0, t1, t2, t3⟩ := K1.out.cells
  have z0 := frozen_of_row _ _ 0 _ _ K1.out
  have z1 := frozen_of_row _ _ 1 _ _ K1.out
  have z2 := frozen_of_row _ _ 2 _ _ K1.out
  have z3 := frozen_of_row _ _ 3 _ _ K1.out
  go_wp2_with fail
  refine bodyPost_ret (v := .tuple #[zeroCells, .bool false]) (by simp [results, zeroCells, Tryd.results6, go_sem, t0, t1, t2, t3]) rfl ?_
  rw [HC.out]
  exact ref_none B1.out _ _ _ _

set_option maxRecDepth 100000 in
set_option maxHeartbeats 4000000 in
theorem ref_wrong1 (s : ByteArray) (x : V) (B : Nat → Prop) (w : World) (a : Value) (hB : Under B w.heap.size) (ha : RepLG B w [x] a) (har : fnArity (fnOf s) = 1) (hr : rightV 4 x = false) :
    Calls Tryd.prog 6 #[.string s, a] w (RefPost B (callV (fnOf s) [x]) w) := by
  have HC := Lib.hid (call_wrong (k := fnOf s) (args := [x]) (x := x) (by simp) hr)
  have HAR := Lib.hid har
  have HRHX := Lib.hid hr
  clear har hr
  obtain ⟨b, o, cap, fa, fc, rfl, hcap, hx⟩ := arg_one ha
  have HX := Lib.hid hx
  clear ha hx
  have HCAP := Lib.hid hcap
  clear hcap
  go_enter Tryd.func6, Tryd.ntmps6
  go_wp2_with fail
  have k1 := boxed_new w (.int .i64 0) (.int .i64 0) (.string ⟨#[]⟩) (.slice none 0 0)
  have b1 := stands_alloc w (.cells #[.int .i64 0, .int .i64 0, .string ⟨#[]⟩, .slice none 0 0] 24)
  generalize w.alloc (.cells #[.int .i64 0, .int .i64 0, .string ⟨#[]⟩, .slice none 0 0] 24) = w1 at *
  have K1 := Lib.hid k1; have B1 := Lib.hid b1
  clear k1 b1
  refine (refArity_any s _).mono ?_
  rintro e w' ⟨rfl, rfl⟩
  rw [HAR.out]
  obtain ⟨q0, q1, q2, q3⟩ := (HX.out.on hB B1.out).cells
  go_wp2_with fail
  refine wp_loop_rounds 4 ?_
  rw [rounds_succ]
  go_wp2_with fail
  refine (refRight_at x B _ _ _ _ _ (hB.up B1.out.size) (HX.out.on hB B1.out).rep).mono ?_
  rw [HRHX.out]
  rintro e w2 ⟨rfl, b⟩
  have B2 := Lib.hid (Below.step B1.out b); have K2 := Lib.hid (K1.out.on b)
  clear b q0 q1 q2 q3 B1 K1
  obtain ⟨t0, t1, t2, t3⟩ := K2.out.cells
  have z0 := frozen_of_row _ _ 0 _ _ K2.out
  have z1 := frozen_of_row _ _ 1 _ _ K2.out
  have z2 := frozen_of_row _ _ 2 _ _ K2.out
  have z3 := frozen_of_row _ _ 3 _ _ K2.out
  go_wp2_with fail
  refine bodyPost_ret (v := .tuple #[zeroCells, .bool false]) (by simp [results, zeroCells, Tryd.results6, go_sem, t0, t1, t2, t3]) rfl ?_
  rw [HC.out]
  exact ref_none B2.out _ _ _ _

set_option maxRecDepth 100000 in
set_option maxHeartbeats 4000000 in
theorem ref_wrong2 (s : ByteArray) (x y : V) (B : Nat → Prop) (w : World) (a : Value) (hB : Under B w.heap.size) (ha : RepLG B w [x, y] a) (har : fnArity (fnOf s) = 2) (hr : rightV 4 x = false) :
    Calls Tryd.prog 6 #[.string s, a] w (RefPost B (callV (fnOf s) [x, y]) w) := by
  have HC := Lib.hid (call_wrong (k := fnOf s) (args := [x, y]) (x := x) (by simp) hr)
  have HAR := Lib.hid har
  have HRHX := Lib.hid hr
  clear har hr
  obtain ⟨b, o, cap, fa, fc, ga, gc, rfl, hcap, hx, hy⟩ := arg_two ha
  have HX := Lib.hid hx; have HY := Lib.hid hy
  clear ha hx hy
  have HCAP := Lib.hid hcap
  clear hcap
  go_enter Tryd.func6, Tryd.ntmps6
  go_wp2_with fail
  have k1 := boxed_new w (.int .i64 0) (.int .i64 0) (.string ⟨#[]⟩) (.slice none 0 0)
  have b1 := stands_alloc w (.cells #[.int .i64 0, .int .i64 0, .string ⟨#[]⟩, .slice none 0 0] 24)
  generalize w.alloc (.cells #[.int .i64 0, .int .i64 0, .string ⟨#[]⟩, .slice none 0 0] 24) = w1 at *
  have K1 := Lib.hid k1; have B1 := Lib.hid b1
  clear k1 b1
  refine (refArity_any s _).mono ?_
  rintro e w' ⟨rfl, rfl⟩
  rw [HAR.out]
  obtain ⟨q0, q1, q2, q3⟩ := (HX.out.on hB B1.out).cells
  go_wp2_with fail
  refine wp_loop_rounds 4 ?_
  rw [rounds_succ]
  go_wp2_with fail
  refine (refRight_at x B _ _ _ _ _ (hB.up B1.out.size) (HX.out.on hB B1.out).rep).mono ?_
  rw [HRHX.out]
  rintro e w2 ⟨rfl, b⟩
  have B2 := Lib.hid (Below.step B1.out b); have K2 := Lib.hid (K1.out.on b)
  clear b q0 q1 q2 q3 B1 K1
  obtain ⟨t0, t1, t2, t3⟩ := K2.out.cells
  have z0 := frozen_of_row _ _ 0 _ _ K2.out
  have z1 := frozen_of_row _ _ 1 _ _ K2.out
  have z2 := frozen_of_row _ _ 2 _ _ K2.out
  have z3 := frozen_of_row _ _ 3 _ _ K2.out
  go_wp2_with fail
  refine bodyPost_ret (v := .tuple #[zeroCells, .bool false]) (by simp [results, zeroCells, Tryd.results6, go_sem, t0, t1, t2, t3]) rfl ?_
  rw [HC.out]
  exact ref_none B2.out _ _ _ _

set_option maxRecDepth 100000 in
set_option maxHeartbeats 4000000 in
theorem ref_wrong3 (s : ByteArray) (x y : V) (B : Nat → Prop) (w : World) (a : Value) (hB : Under B w.heap.size) (ha : RepLG B w [x, y] a) (har : fnArity (fnOf s) = 2) (hr : rightV 4 x = true) (hr2 : rightV 4 y = false) :
    Calls Tryd.prog 6 #[.string s, a] w (RefPost B (callV (fnOf s) [x, y]) w) := by
  have HC := Lib.hid (call_wrong (k := fnOf s) (args := [x, y]) (x := y) (by simp) hr2)
  have HAR := Lib.hid har
  have HRHX := Lib.hid hr
  have HRHY := Lib.hid hr2
  clear har hr hr2
  obtain ⟨b, o, cap, fa, fc, ga, gc, rfl, hcap, hx, hy⟩ := arg_two ha
  have HX := Lib.hid hx; have HY := Lib.hid hy
  clear ha hx hy
  have HCAP := Lib.hid hcap
  clear hcap
  go_enter Tryd.func6, Tryd.ntmps6
  go_wp2_with fail
  have k1 := boxed_new w (.int .i64 0) (.int .i64 0) (.string ⟨#[]⟩) (.slice none 0 0)
  have b1 := stands_alloc w (.cells #[.int .i64 0, .int .i64 0, .string ⟨#[]⟩, .slice none 0 0] 24)
  generalize w.alloc (.cells #[.int .i64 0, .int .i64 0, .string ⟨#[]⟩, .slice none 0 0] 24) = w1 at *
  have K1 := Lib.hid k1; have B1 := Lib.hid b1
  clear k1 b1
  refine (refArity_any s _).mono ?_
  rintro e w' ⟨rfl, rfl⟩
  rw [HAR.out]
  obtain ⟨q0, q1, q2, q3⟩ := (HX.out.on hB B1.out).cells
  go_wp2_with fail
  refine wp_loop_rounds 4 ?_
  rw [rounds_succ]
  go_wp2_with fail
  refine (refRight_at x B _ _ _ _ _ (hB.up B1.out.size) (HX.out.on hB B1.out).rep).mono ?_
  rw [HRHX.out]
  rintro e w2 ⟨rfl, b⟩
  have B2 := Lib.hid (Below.step B1.out b); have K2 := Lib.hid (K1.out.on b)
  clear b q0 q1 q2 q3 B1 K1
  obtain ⟨q0, q1, q2, q3⟩ := (HY.out.on hB B2.out).cells
  go_wp2_with fail
  rw [rounds_succ]
  go_wp2_with fail
  refine (refRight_at y B _ _ _ _ _ (hB.up B2.out.size) (HY.out.on hB B2.out).rep).mono ?_
  rw [HRHY.out]
  rintro e w3 ⟨rfl, b⟩
  have B3 := Lib.hid (Below.step B2.out b); have K3 := Lib.hid (K2.out.on b)
  clear b q0 q1 q2 q3 B2 K2
  obtain ⟨t0, t1, t2, t3⟩ := K3.out.cells
  have z0 := frozen_of_row _ _ 0 _ _ K3.out
  have z1 := frozen_of_row _ _ 1 _ _ K3.out
  have z2 := frozen_of_row _ _ 2 _ _ K3.out
  have z3 := frozen_of_row _ _ 3 _ _ K3.out
  go_wp2_with fail
  refine bodyPost_ret (v := .tuple #[zeroCells, .bool false]) (by simp [results, zeroCells, Tryd.results6, go_sem, t0, t1, t2, t3]) rfl ?_
  rw [HC.out]
  exact ref_none B3.out _ _ _ _

set_option maxRecDepth 100000 in
set_option maxHeartbeats 4000000 in
theorem ref_kind1 (s : ByteArray) (x : V) (B : Nat → Prop) (w : World) (a : Value) (hB : Under B w.heap.size) (ha : RepLG B w [x] a) (har : fnArity (fnOf s) = 1) (hr : rightV 4 x = true) (hk : ¬ x.kind = 4) :
    Calls Tryd.prog 6 #[.string s, a] w (RefPost B (callV (fnOf s) [x]) w) := by
  have HC := Lib.hid (call_none (k := fnOf s) (args := [x]) fun ht => hk (takes_kind1 ht))
  have h0 := fn_not_cons (s := s) (fun e => by rw [e] at har; exact absurd har (by decide))
  have HAR := Lib.hid har
  have HRHX := Lib.hid hr
  clear har hr
  obtain ⟨b, o, cap, fa, fc, rfl, hcap, hx⟩ := arg_one ha
  have HX := Lib.hid hx
  clear ha hx
  have HCAP := Lib.hid hcap
  clear hcap
  go_enter Tryd.func6, Tryd.ntmps6
  go_wp2_with fail
  have k1 := boxed_new w (.int .i64 0) (.int .i64 0) (.string ⟨#[]⟩) (.slice none 0 0)
  have b1 := stands_alloc w (.cells #[.int .i64 0, .int .i64 0, .string ⟨#[]⟩, .slice none 0 0] 24)
  generalize w.alloc (.cells #[.int .i64 0, .int .i64 0, .string ⟨#[]⟩, .slice none 0 0] 24) = w1 at *
  have K1 := Lib.hid k1; have B1 := Lib.hid b1
  clear k1 b1
  refine (refArity_any s _).mono ?_
  rintro e w' ⟨rfl, rfl⟩
  rw [HAR.out]
  obtain ⟨q0, q1, q2, q3⟩ := (HX.out.on hB B1.out).cells
  go_wp2_with fail
  refine wp_loop_rounds 4 ?_
  rw [rounds_succ]
  go_wp2_with fail
  refine (refRight_at x B _ _ _ _ _ (hB.up B1.out.size) (HX.out.on hB B1.out).rep).mono ?_
  rw [HRHX.out]
  rintro e w2 ⟨rfl, b⟩
  have B2 := Lib.hid (Below.step B1.out b); have K2 := Lib.hid (K1.out.on b)
  clear b q0 q1 q2 q3 B1 K1
  obtain ⟨q0, q1, q2, q3⟩ := (HX.out.on hB B2.out).cells
  have b := stands_alloc w2 (.cells #[.int .i64 x.kind, .int .i64 x.num, .string x.text, .slice fa x.list.length fc] 24)
  have B3 := Lib.hid (Below.step B2.out b); have K3 := Lib.hid (K2.out.on b); have L3 := Lib.hid (boxed_new w2 (.int .i64 x.kind) (.int .i64 x.num) (.string x.text) (.slice fa x.list.length fc))
  clear b
  obtain ⟨t0, t1, t2, t3⟩ := K3.out.cells
  have z0 := frozen_of_row _ _ 0 _ _ K3.out
  have z1 := frozen_of_row _ _ 1 _ _ K3.out
  have z2 := frozen_of_row _ _ 2 _ _ K3.out
  have z3 := frozen_of_row _ _ 3 _ _ K3.out
  go_wp2_with fail
  rw [rounds_succ]
  go_wp2_with fail
  refine bodyPost_ret (v := .tuple #[zeroCells, .bool false]) (by simp [results, zeroCells, Tryd.results6, go_sem, t0, t1, t2, t3]) rfl ?_
  rw [HC.out]
  exact ref_none B3.out _ _ _ _

set_option maxRecDepth 100000 in
set_option maxHeartbeats 4000000 in
theorem ref_kind2 (s : ByteArray) (x y : V) (B : Nat → Prop) (w : World) (a : Value) (hB : Under B w.heap.size) (ha : RepLG B w [x, y] a) (har : fnArity (fnOf s) = 2) (hr : rightV 4 x = true) (hr2 : rightV 4 y = true) (hn : fnOf s ≠ 0) (hk : ¬ x.kind = 4) :
    Calls Tryd.prog 6 #[.string s, a] w (RefPost B (callV (fnOf s) [x, y]) w) := by
  have HC := Lib.hid (call_none (k := fnOf s) (args := [x, y]) fun ht => hk ((takes_kind2 ht).1 hn))
  have h0 := fn_not_cons (s := s) hn
  have HAR := Lib.hid har
  have HRHX := Lib.hid hr
  have HRHY := Lib.hid hr2
  clear har hr hr2 hn
  obtain ⟨b, o, cap, fa, fc, ga, gc, rfl, hcap, hx, hy⟩ := arg_two ha
  have HX := Lib.hid hx; have HY := Lib.hid hy
  clear ha hx hy
  have HCAP := Lib.hid hcap
  clear hcap
  go_enter Tryd.func6, Tryd.ntmps6
  go_wp2_with fail
  have k1 := boxed_new w (.int .i64 0) (.int .i64 0) (.string ⟨#[]⟩) (.slice none 0 0)
  have b1 := stands_alloc w (.cells #[.int .i64 0, .int .i64 0, .string ⟨#[]⟩, .slice none 0 0] 24)
  generalize w.alloc (.cells #[.int .i64 0, .int .i64 0, .string ⟨#[]⟩, .slice none 0 0] 24) = w1 at *
  have K1 := Lib.hid k1; have B1 := Lib.hid b1
  clear k1 b1
  refine (refArity_any s _).mono ?_
  rintro e w' ⟨rfl, rfl⟩
  rw [HAR.out]
  obtain ⟨q0, q1, q2, q3⟩ := (HX.out.on hB B1.out).cells
  go_wp2_with fail
  refine wp_loop_rounds 4 ?_
  rw [rounds_succ]
  go_wp2_with fail
  refine (refRight_at x B _ _ _ _ _ (hB.up B1.out.size) (HX.out.on hB B1.out).rep).mono ?_
  rw [HRHX.out]
  rintro e w2 ⟨rfl, b⟩
  have B2 := Lib.hid (Below.step B1.out b); have K2 := Lib.hid (K1.out.on b)
  clear b q0 q1 q2 q3 B1 K1
  obtain ⟨q0, q1, q2, q3⟩ := (HY.out.on hB B2.out).cells
  go_wp2_with fail
  rw [rounds_succ]
  go_wp2_with fail
  refine (refRight_at y B _ _ _ _ _ (hB.up B2.out.size) (HY.out.on hB B2.out).rep).mono ?_
  rw [HRHY.out]
  rintro e w3 ⟨rfl, b⟩
  have B3 := Lib.hid (Below.step B2.out b); have K3 := Lib.hid (K2.out.on b)
  clear b q0 q1 q2 q3 B2 K2
  obtain ⟨q0, q1, q2, q3⟩ := (HX.out.on hB B3.out).cells
  have b := stands_alloc w3 (.cells #[.int .i64 x.kind, .int .i64 x.num, .string x.text, .slice fa x.list.length fc] 24)
  have B4 := Lib.hid (Below.step B3.out b); have K4 := Lib.hid (K3.out.on b); have L4 := Lib.hid (boxed_new w3 (.int .i64 x.kind) (.int .i64 x.num) (.string x.text) (.slice fa x.list.length fc))
  clear b
  obtain ⟨t0, t1, t2, t3⟩ := K4.out.cells
  have z0 := frozen_of_row _ _ 0 _ _ K4.out
  have z1 := frozen_of_row _ _ 1 _ _ K4.out
  have z2 := frozen_of_row _ _ 2 _ _ K4.out
  have z3 := frozen_of_row _ _ 3 _ _ K4.out
  go_wp2_with fail
  rw [rounds_succ]
  go_wp2_with fail
  refine bodyPost_ret (v := .tuple #[zeroCells, .bool false]) (by simp [results, zeroCells, Tryd.results6, go_sem, t0, t1, t2, t3]) rfl ?_
  rw [HC.out]
  exact ref_none B4.out _ _ _ _

end Go.Proofs.YtaomlkglodeaoaaDoor
