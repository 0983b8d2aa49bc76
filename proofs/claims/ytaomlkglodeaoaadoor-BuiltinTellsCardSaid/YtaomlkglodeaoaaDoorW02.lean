/-
  A slice of values that the call itself has made and appends to.
-/
import Derived.Test.YtaomlkglodeaoaaDoorW01
import Derived.Lib.SmallJoins
import Derived.Maps.AppendAt
import Derived.Lib.AppendZeros
import Derived.LoopN
namespace Go.Proofs.YtaomlkglodeaoaaDoor
open Go.RowKit

/-- The call's own row (from block 'base' on) holds the values of l; their lists' rows lie in S. -/
def OwnL (S : Nat → Prop) (w : World) (base : Nat) (l : List V) (v : Value) : Prop :=
  ∃ xs, w.ownsRow base 24 4 v l.length xs ∧ RepRow S w l xs.toArray

theorem OwnL.nil (S : Nat → Prop) (w : World) (base : Nat) : OwnL S w base [] (.slice none 0 0) :=
  ⟨[], World.ownsRow_nil _ _ _ _, fun i hi => by simp at hi⟩

theorem row_snoc {S : Nat → Prop} {w : World} {l : List V} {xs : List Value} (h : RepRow S w l xs.toArray) (hl : xs.length = l.length * 4) {x : V} {y0 y1 y2 y3 : Value} (hx : RepG S w x y0 y1 y2 y3) : RepRow S w (l ++ [x]) (xs ++ [y0, y1, y2, y3]).toArray := by
  intro i hi
  by_cases e : i < l.length
  · obtain ⟨z0, z1, z2, z3, g0, g1, g2, g3, g⟩ := h i e
    refine ⟨z0, z1, z2, z3, ?_, ?_, ?_, ?_, by rw [List.getElem_append_left e]; exact g⟩ <;>
    · simp only [List.getElem?_toArray] at *
      rw [List.getElem?_append_left (by omega)]
      assumption
  · simp only [List.length_append, List.length_cons, List.length_nil] at hi
    obtain rfl : i = l.length := by omega
    refine ⟨y0, y1, y2, y3, ?_, ?_, ?_, ?_, by simpa using hx⟩ <;>
    · simp only [List.getElem?_toArray]
      rw [List.getElem?_append_right (by omega)]
      simp [hl]

/-- The row as a slice of values, wherever its own block is in S'. -/
theorem OwnL.rep {S S' : Nat → Prop} {w : World} {base : Nat} {l : List V} {v : Value} (h : OwnL S w base l v) (hS : ∀ k, S k → S' k) (hg : ∀ g, base ≤ g → g < w.heap.size → S' g) (hb : l.length * 56 ≤ 140737488355328) : RepLG S' w l v := by
  obtain ⟨xs, ⟨hlen, hown⟩, hr⟩ := h
  rcases hown with ⟨rfl, hn⟩ | ⟨g, cap, cur, rfl, hbg, hh, hnc, hcm, hcs, htk⟩
  · obtain rfl : l = [] := List.length_eq_zero_iff.1 hn
    exact ⟨none, 0, 0, 0, rfl, Nat.le_refl _, by simp, fun h => by omega, fun h => by simp at h, fun i hi => by simp at hi⟩
  · have hr' : RepRow S w l cur := by
      intro i hi
      obtain ⟨z0, z1, z2, z3, g0, g1, g2, g3, gg⟩ := hr i hi
      have key : ∀ j v, j < l.length * 4 → xs.toArray[j]? = some v → cur[j]? = some v := by
        intro j v hj hv
        rw [List.getElem?_toArray, ← htk, List.getElem?_take, if_pos hj] at hv
        rw [← Array.getElem?_toList]; exact hv
      exact ⟨z0, z1, z2, z3, key _ _ (by omega) g0, key _ _ (by omega) g1, key _ _ (by omega) g2, key _ _ (by omega) g3, gg⟩
    exact (hr'.on hS (fun _ _ => rfl)).slice hh (hg g hbg (Array.getElem?_eq_some_iff.1 hh).1) hnc hb

theorem OwnL.on {S S' : Nat → Prop} {w w' : World} {base : Nat} {l : List V} {v : Value} (h : OwnL S w base l v) (hS : ∀ k, S k → S' k) (hw : ∀ k, S k → w'.heap[k]? = w.heap[k]?) (ho : ∀ k, base ≤ k → k < w.heap.size → v.ownBlock = some k → w'.heap[k]? = w.heap[k]?) : OwnL S' w' base l v := by
  obtain ⟨xs, ⟨hlen, hown⟩, hr⟩ := h
  refine ⟨xs, ⟨hlen, ?_⟩, hr.on hS hw⟩
  rcases hown with h | ⟨g, cap, cur, rfl, hbg, hh, r⟩
  · exact .inl h
  · exact .inr ⟨g, cap, cur, rfl, hbg, (ho g hbg (Array.getElem?_eq_some_iff.1 hh).1 rfl).trans hh, r⟩

/-- Every block that there was stands. -/
theorem OwnL.stands {S S' : Nat → Prop} {w w' : World} {base : Nat} {l : List V} {v : Value} (h : OwnL S w base l v) (hS : ∀ k, S k → S' k ∧ k < w.heap.size) (hb : Below w.heap.size w w') : OwnL S' w' base l v :=
  h.on (fun k hk => (hS k hk).1) (fun k hk => hb.block k (hS k hk).2) (fun k _ hk _ => hb.block k hk)

theorem OwnL.own {S : Nat → Prop} {w : World} {base : Nat} {l : List V} {v : Value} (h : OwnL S w base l v) : ∃ xs, w.ownsRow base 24 4 v l.length xs ∧ RepRow S w l xs.toArray := h

/-- Behind an append of one value. -/
theorem OwnL.snoc {S S' : Nat → Prop} {w w' : World} {base : Nat} {l : List V} {v v' : Value} {xs : List Value} (hr : RepRow S w l xs.toArray) (hlen : xs.length = l.length * 4) {x : V} {y0 y1 y2 y3 : Value} (hx : RepG S w x y0 y1 y2 y3)
    (hown' : w'.ownsRow base 24 4 v' (l.length + 1) (xs ++ [y0, y1, y2, y3])) (hg : w.grownBy w' v.ownBlock) (hS : ∀ k, S k → S' k ∧ k < w.heap.size ∧ v.ownBlock ≠ some k) : OwnL S' w' base (l ++ [x]) v' :=
  ⟨xs ++ [y0, y1, y2, y3], by simpa using hown', (row_snoc hr hlen hx).on (fun k hk => (hS k hk).1) (fun k hk => hg.block k (hS k hk).2.1 (fun e => (hS k hk).2.2 e.symm))⟩

end Go.Proofs.YtaomlkglodeaoaaDoor

/-
  value.Number and List: what they make.
-/
namespace Go.Proofs.YtaomlkglodeaoaaDoor
open Go.RowKit

def noText : ByteArray := ⟨#[]⟩
theorem repV_num (B : Nat) (w : World) (n : Int) (h : I64 n) : RepV B w (.mk 1 n ⟨#[]⟩ []) (.int .i64 1) (.int .i64 n) (.string ⟨#[]⟩) (.slice none 0 0) :=
  repV_mk.2 ⟨rfl, rfl, rfl, ⟨by omega, by omega⟩, h, by unfold maxLen; simp [ByteArray.size], none, 0, 0, 0, rfl, Nat.le_refl _, by simp, fun h => by omega, fun h => by simp at h, fun i hi => by simp at hi⟩
theorem repV_str (B : Nat) (w : World) (k : Int) (s : ByteArray) (hk : I64 k) (h : s.size ≤ maxLen) : RepV B w (.mk k 0 s []) (.int .i64 k) (.int .i64 0) (.string s) (.slice none 0 0) :=
  repV_mk.2 ⟨rfl, rfl, rfl, hk, ⟨by omega, by omega⟩, h, none, 0, 0, 0, rfl, Nat.le_refl _, by simp, fun h => by omega, fun h => by simp at h, fun i hi => by simp at hi⟩

theorem number_any (n : Int) (w : World) : Calls Tryd.prog 18 #[.int .i64 n] w fun e w' => e = .returned (.agg #[.int .i64 1, .int .i64 n, .string ⟨#[]⟩, .slice none 0 0]) ∧ Below w.heap.size w w' := by
  go_enter Tryd.func18, Tryd.ntmps18
  go_wp2
  exact bodyPost_ret (v := .agg #[.int .i64 1, .int .i64 n, .string ⟨#[]⟩, .slice none 0 0]) (by simp [results, Tryd.results18, go_sem]) rfl ⟨rfl, (Below.refl _ _).alloc (Nat.le_refl _) _⟩

set_option maxRecDepth 100000 in
set_option maxHeartbeats 1000000 in
theorem list_any (l : List V) (B : Nat) (w : World) (a : Value) (hB : B ≤ w.heap.size) (ha : RepL B w l a) :
    Calls Tryd.prog 19 #[a] w fun e w' => ∃ r, e = .returned (.agg #[.int .i64 4, .int .i64 0, .string ⟨#[]⟩, r]) ∧ RepLG (fun b => w.heap.size ≤ b ∧ b < w'.heap.size) w' l r ∧ Below w.heap.size w w' := by
  have HA := Lib.hid ha
  obtain ⟨aa, ab, ao, ac, rfl, -⟩ := ha
  go_enter Tryd.func19, Tryd.ntmps19
  go_wp2_with fail
  have hb2 : Below w.heap.size w (w.alloc (.cells #[.int .i64 0, .int .i64 0, .string ⟨#[]⟩, .slice none 0 0] 24)) := (Below.refl _ w).alloc (Nat.le_refl _) _
  refine (copied_any l B _ _ (by simp; omega) (RepL.below (fun j hj => hb2.block j (by omega)) HA.out)).mono ?_
  rintro e w3 ⟨r, rfl, hrl, hb3⟩
  obtain ⟨ra, rb, ro, rc, hr1, -⟩ := id hrl
  subst hr1
  have b1 : w3.heap[w.heap.size]? = _ := (hb3.block w.heap.size (by simp)).trans (alloc_new' _ _)
  have z0 := frozen_of_row w3 _ 0 _ _ b1
  have z1 := frozen_of_row w3 _ 1 _ _ b1
  have z2 := frozen_of_row w3 _ 2 _ _ b1
  have z3 := frozen_of_row w3 _ 3 _ _ b1
  have d0 := cell_of_block' (i := 0) b1 _ rfl
  have d1 := cell_of_block' (i := 1) b1 _ rfl
  have d2 := cell_of_block' (i := 2) b1 _ rfl
  have d3 := cell_of_block' (i := 3) b1 _ rfl
  have hw3 : Below w.heap.size w w3 := hb2.trans (hb3.mono (by simp))
  have hs3 := hb3.size
  simp only [World.size_alloc] at hs3
  clear b1
  have HRL := Lib.hid hrl; clear hrl
  go_wp2_with fail
  refine bodyPost_ret (v := .agg #[.int .i64 4, .int .i64 0, .string ⟨#[]⟩, .slice ra l.length rc]) (by simp [results, Tryd.results19, go_sem, d0, d1, d2, d3]) rfl ⟨_, rfl, ?_, ?_⟩
  · refine HRL.out.on (fun b hb => ⟨by have := hb.1; simp at this; omega, by simp [World.setCell]; exact hb.2⟩) (fun b hb => ?_)
    have h1 : b ≠ w.heap.size := by have := hb.1; simp at this; omega
    rw [Below.heap_setCell _ _ _ _ (by simpa using h1), Below.heap_setCell _ _ _ _ (by simpa using h1), Below.heap_setCell _ _ _ _ (by simpa using h1), Below.heap_setCell _ _ _ _ (by simpa using h1)]
  · exact (((hw3.setCell (Nat.le_refl _) _).setCell (Nat.le_refl _) _).setCell (Nat.le_refl _) _).setCell (Nat.le_refl _) _

end Go.Proofs.YtaomlkglodeaoaaDoor

/-
  'append' of a slice of values that came in.
-/
namespace Go.Proofs.YtaomlkglodeaoaaDoor
open Go.RowKit

/-- The cells of a slice of values, one by one. -/
theorem RepLG.flat {S : Nat → Prop} {w : World} {l : List V} {a : Option Addr} {len cap : Nat} (h : RepLG S w l (.slice a len cap)) :
    len = l.length ∧ ∃ (b o : Nat) (xs : List Value), (0 < cap → a = some ⟨b, o, none⟩) ∧ xs.length = l.length * 4 ∧ (∀ j u, xs[j]? = some u → w.cell? ⟨b, o + j, none⟩ = some u) ∧ (∀ u ∈ xs, u.oneCell' = true) ∧ RepRow S w l xs.toArray := by
  obtain ⟨a', b, o, cap', e, h6, h7, h8, h9, h10⟩ := h
  cases e
  refine ⟨rfl, b, o, ?_⟩
  clear h6 h7 h9
  suffices H : ∀ n, n ≤ l.length → ∃ xs : List Value, xs.length = n * 4 ∧ (∀ j u, xs[j]? = some u → w.cell? ⟨b, o + j, none⟩ = some u) ∧ (∀ u ∈ xs, u.oneCell' = true) ∧ RepRow S w (l.take n) xs.toArray by
    obtain ⟨xs, h1, h2, h3, h4⟩ := H l.length (Nat.le_refl _)
    rw [List.take_length] at h4
    exact ⟨xs, h8, h1, h2, h3, h4⟩
  intro n
  induction n with
  | zero => exact fun _ => ⟨[], rfl, fun j u hj => by simp at hj, fun u hu => by simp at hu, fun i hi => by simp at hi⟩
  | succ n ih =>
    intro hn
    obtain ⟨xs, h1, h2, h3, h4⟩ := ih (by omega)
    obtain ⟨x0, x1, x2, x3, g0, g1, g2, g3, g⟩ := h10 n (by omega)
    obtain ⟨fa, fc, rfl, rfl, rfl, rfl⟩ := g.form
    refine ⟨xs ++ [.int .i64 l[n].kind, .int .i64 l[n].num, .string l[n].text, .slice fa l[n].list.length fc], by simp [h1]; omega, ?_, ?_, ?_⟩
    · intro j u hj
      by_cases hj1 : j < xs.length
      · rw [List.getElem?_append_left hj1] at hj; exact h2 j u hj
      · rw [List.getElem?_append_right (by omega)] at hj
        have hj2 : j - xs.length < 4 := by
          have := (List.getElem?_eq_some_iff.1 hj).1
          simpa using this
        obtain ⟨t, rfl⟩ : ∃ t, j = n * 4 + t := ⟨j - n * 4, by omega⟩
        have ht : n * 4 + t - xs.length = t := by omega
        rw [ht] at hj hj2
        match t, hj2, hj with
        | 0, _, hj => simp at hj; subst hj; exact g0
        | 1, _, hj => simp at hj; subst hj; exact g1
        | 2, _, hj => simp at hj; subst hj; exact g2
        | 3, _, hj => simp at hj; subst hj; exact g3
    · intro u hu
      rcases List.mem_append.1 hu with hu | hu
      · exact h3 u hu
      · simp at hu; rcases hu with rfl | rfl | rfl | rfl <;> rfl
    · rw [List.take_succ_eq_append_getElem (by omega)]
      exact row_snoc h4 (by rw [h1]; simp; omega) g

theorem row_append {S : Nat → Prop} {w : World} {l : List V} {xs : List Value} (h : RepRow S w l xs.toArray) (hl : xs.length = l.length * 4) {m : List V} {ys : List Value} (h' : RepRow S w m ys.toArray) : RepRow S w (l ++ m) (xs ++ ys).toArray := by
  intro i hi
  by_cases e : i < l.length
  · obtain ⟨z0, z1, z2, z3, g0, g1, g2, g3, g⟩ := h i e
    refine ⟨z0, z1, z2, z3, ?_, ?_, ?_, ?_, by rw [List.getElem_append_left e]; exact g⟩ <;>
    · simp only [List.getElem?_toArray] at *
      rw [List.getElem?_append_left (by omega)]
      assumption
  · have hi' : i - l.length < m.length := by simp at hi; omega
    obtain ⟨z0, z1, z2, z3, g0, g1, g2, g3, g⟩ := h' (i - l.length) hi'
    have e4 : i * 4 - xs.length = (i - l.length) * 4 := by omega
    refine ⟨z0, z1, z2, z3, ?_, ?_, ?_, ?_, by rw [List.getElem_append_right (by omega)]; exact g⟩ <;>
    · simp only [List.getElem?_toArray] at *
      rw [List.getElem?_append_right (by omega)]
      first
        | (rw [show i * 4 - xs.length = (i - l.length) * 4 by omega]; assumption)
        | (rw [show i * 4 + 1 - xs.length = (i - l.length) * 4 + 1 by omega]; assumption)
        | (rw [show i * 4 + 2 - xs.length = (i - l.length) * 4 + 2 by omega]; assumption)
        | (rw [show i * 4 + 3 - xs.length = (i - l.length) * 4 + 3 by omega]; assumption)

theorem add_lit' (b o j : Nat) : ((⟨b, o, none⟩ : Addr).add j) = ⟨b, o + j, none⟩ := by unfold Addr.add; split <;> simp_all

/-- 'append(v, x...)': what v owns, and behind it what x holds. -/
theorem append_run (w : World) (base : Nat) (ty : TypeId) {S : Nat → Prop} {l m : List V} {v x : Value} (hl : OwnL S w base l v) (hm : RepLG S w m x) (hS : ∀ k, S k → k < w.heap.size ∧ v.ownBlock ≠ some k)
    (hlen : (l.length + m.length) * 56 ≤ 140737488355328) (hbase : base ≤ w.heap.size) :
    ∃ v' w', (Builtin.append_ #[22, 22] ty #[v, x]).run Tryd.prog w = .ok v' w' ∧ OwnL S w' base (l ++ m) v' ∧ w.grownBy w' v.ownBlock ∧ (v'.ownBlock = v.ownBlock ∨ v'.ownBlock = some w.heap.size) := by
  obtain ⟨i0, hi, hz0, hz1, hz2⟩ := info_parts infoValue
  obtain ⟨xs, hown, hrow⟩ := hl
  obtain ⟨a, b, o, cap, rfl, -⟩ := id hm
  obtain ⟨-, b, o, ys, hx1, hx2, hx3, hx4, hx5⟩ := RepLG.flat hm
  have fin : ∀ v' w', w'.ownsRow base 24 4 v' (l.length + m.length) (xs ++ ys) → w.grownBy w' v.ownBlock → OwnL S w' base (l ++ m) v' := fun v' w' h1 h2 =>
    ⟨xs ++ ys, by rw [List.length_append]; exact h1, (row_append hrow hown.1 hx5).on (fun k hk => hk) (fun k hk => h2.block k (hS k hk).1 (fun e => (hS k hk).2 e.symm))⟩
  rcases a with _ | ad
  · have hm0 : m = [] := by
      by_cases hc : 0 < cap
      · have := hx1 hc; cases this
      · obtain ⟨a', b', o', cap', e', h6, _⟩ := hm
        cases e'
        exact List.length_eq_zero_iff.1 (by omega)
    subst hm0
    have hys : ys = [] := List.length_eq_zero_iff.1 (by simpa using hx2)
    subst hys
    have hc0 : cap = 0 := by
      by_cases hc : 0 < cap
      · have := hx1 hc; cases this
      · omega
    subst hc0
    have hrun := run_append_owned_none (P := Tryd.prog) (w := w) base 22 ty 24 i0 4 Tryd.underlying22 hi v l.length xs hown
    exact ⟨v, w, hrun, fin v w (by simpa using hown) (World.grownBy.refl w _), World.grownBy.refl w _, .inl rfl⟩
  · have hnews : ∀ j u, ys[j]? = some u → w.cell? (ad.add j) = some u := fun j u hj => by
      by_cases hc : 0 < cap
      · have := Option.some.inj (hx1 hc)
        subst this
        rw [add_lit']; exact hx3 j u hj
      · obtain ⟨a', b', o', cap', e', h6, _⟩ := hm
        cases e'
        have : ys = [] := List.length_eq_zero_iff.1 (by rw [hx2]; omega)
        rw [this] at hj; simp at hj
    obtain ⟨v', w', hrun, h1, h2, _, h5⟩ := run_append_own_at (P := Tryd.prog) w base 22 ty 24 i0 _ 4 56 Tryd.underlying22 hi hz0 hz1 hz2 rfl (by decide) v l.length xs hown ad m.length cap ys hx2 hnews hx4 (by unfold maxLen; omega) hlen hbase
    exact ⟨v', w', hrun, fin v' w' h1 h2, h2, h5⟩

/-- The operation itself, by what it is known to run to. -/
theorem wpList_append_by {P : Program} {w w' : World} {ops : Array Oper} {rest : List Oper} {o : Oper} {a : Act} {Q : Exit → Act → World → Prop} (hgd : o.guard = none) (s x : Operand) (t : TypeId)
    (ho : o.op = .call { callee := .builtin .append, args := #[s, x], argTypes := #[t, t] }) {v xv v' : Value} (hs : a.eval s = v) (hx : a.eval x = xv) (hrun : (Builtin.append_ #[t, t] o.type #[v, xv]).run P w = .ok v' w')
    (h : wpList P ops Q rest (a.put o.dst v') w') : wpList P ops Q (o :: rest) a w := by
  refine wpList_plain hgd fun K hK => ?_
  unfold Oper.wp execOp
  simp only [ho, resolve, invoke, builtin, Sem.run_bind, Sem.run_pure, Result.andThen_ok, List.map_toArray, List.map_cons, List.map_nil, hs, hx, hrun]
  exact hK _ _ h

end Go.Proofs.YtaomlkglodeaoaaDoor

/-
  A value in a variable of its own.
-/
namespace Go.Proofs.YtaomlkglodeaoaaDoor
open Go.RowKit

/-- A value in a variable of its own. -/
def Boxed (w : World) (k : Nat) (c0 c1 c2 c3 : Value) : Prop := w.heap[k]? = some (.cells #[c0, c1, c2, c3] 24 (0, 0))
theorem Boxed.cells {w : World} {k : Nat} {c0 c1 c2 c3 : Value} (h : Boxed w k c0 c1 c2 c3) : w.cell? ⟨k, 0, none⟩ = some c0 ∧ w.cell? ⟨k, 1, none⟩ = some c1 ∧ w.cell? ⟨k, 2, none⟩ = some c2 ∧ w.cell? ⟨k, 3, none⟩ = some c3 :=
  ⟨cell_of_block' h _ rfl, cell_of_block' h _ rfl, cell_of_block' h _ rfl, cell_of_block' h _ rfl⟩
theorem Boxed.lt {w : World} {k : Nat} {c0 c1 c2 c3 : Value} (h : Boxed w k c0 c1 c2 c3) : k < w.heap.size := (Array.getElem?_eq_some_iff.1 h).1
theorem Boxed.on {w w' : World} {k : Nat} {c0 c1 c2 c3 : Value} (h : Boxed w k c0 c1 c2 c3) (hb : Below w.heap.size w w') : Boxed w' k c0 c1 c2 c3 := (hb.block k h.lt).trans h
theorem boxed_new (w : World) (c0 c1 c2 c3 : Value) : Boxed (w.alloc (.cells #[c0, c1, c2, c3] 24)) w.heap.size c0 c1 c2 c3 := alloc_new' _ _
theorem RepV.on {B : Nat} {w w' : World} (hb : Below w.heap.size w w') (hB : B ≤ w.heap.size) {x : V} {c0 c1 c2 c3 : Value} (h : RepV B w x c0 c1 c2 c3) : RepV B w' x c0 c1 c2 c3 := RepV.below (fun j hj => hb.block j (by omega)) _ h
theorem Below.step {w w1 w2 : World} (h : Below w.heap.size w w1) (h' : Below w1.heap.size w1 w2) : Below w.heap.size w w2 := h.trans (h'.mono h.size)


end Go.Proofs.YtaomlkglodeaoaaDoor

/-
  slices.Grow of nothing and slices.Concat of two slices of values: a new slice with the elements of both.
-/
namespace Go.Proofs.YtaomlkglodeaoaaDoor
open Go.RowKit

/-- A slice of the call's own, without elements. -/
def GrowPost (w : World) (e : Ending) (w' : World) : Prop := ∃ a cap, e = .returned (.slice a 0 cap) ∧ OwnL (fun b => b < w.heap.size) w' w.heap.size [] (.slice a 0 cap) ∧ Below w.heap.size w w'

theorem run_grow (w : World) (n : Nat) (h0 : 0 < n) (hn : n ≤ 1000) : ∃ w', (Builtin.append_ #[22, 3] 22 #[.slice none 0 0, .int .i64 n]).run Tryd.prog w = .ok (.slice (some ⟨w.heap.size, 0, none⟩) n (grownCap w n 0 24)) w' ∧
    OwnL (fun b => b < w.heap.size) w' w.heap.size [] (.slice (some ⟨w.heap.size, 0, none⟩) 0 (grownCap w n 0 24)) ∧ Below w.heap.size w w' := by
  obtain ⟨i0, hi, hz0, hz1, hz2⟩ := info_parts infoValue
  have h := Lib.run_append_nil_zeros (P := Tryd.prog) w 22 3 22 24 i0 _ .i64 .i64 Tryd.underlying22 Tryd.underlying3 hi hz0 n h0 (by rw [hz1]; omega) (by omega) (by rw [hz2]; omega)
  refine ⟨_, h, ⟨[], ⟨rfl, .inr ⟨w.heap.size, _, _, rfl, Nat.le_refl _, alloc_new' _ _, Nat.zero_le _, grownCap_le_maxLen _ _ _ _ (by unfold maxLen; omega), ?_, rfl⟩⟩, fun i hi => by simp at hi⟩, (Below.drew (Below.refl _ w)).alloc (Nat.le_refl _) _⟩
  have := grownCap_ge w n 0 24
  rw [Array.size_append, size_zeroCells, size_zeroCells]
  simp [Value.cells]
  omega

set_option maxRecDepth 100000 in
set_option maxHeartbeats 1000000 in
theorem grow_any (w : World) (n : Nat) (hn : n ≤ 1000) :
    Calls Tryd.prog 71 #[.slice none 0 0, .int .i64 n] w (GrowPost w) := by
  by_cases h0 : 0 < n
  · obtain ⟨w', hrun, hown, hb⟩ := run_grow w n h0 hn
    have HRUN := Lib.hid hrun; have HOWN := Lib.hid hown; have HB := Lib.hid hb
    generalize grownCap w n 0 24 = cap at *
    clear hrun hown hb
    go_enter Tryd.func71, Tryd.ntmps71
    go_wp2_with (at_builtin; refine Lib.wpList_append_run _ rfl _ _ _ _ rfl _ _ rfl rfl _ _ HRUN.out ?_)
    go_ret
    exact ⟨_, cap, rfl, HOWN.out, HB.out⟩
  · obtain rfl : n = 0 := by omega
    clear h0
    go_enter Tryd.func71, Tryd.ntmps71
    go_wp2_with fail
    go_ret
    exact ⟨none, 0, rfl, OwnL.nil _ _ _, Below.refl _ _⟩

theorem own_slice {S : Nat → Prop} {w : World} {base : Nat} {l : List V} {v : Value} (h : OwnL S w base l v) : ∃ a cap, v = .slice a l.length cap := by
  obtain ⟨xs, ⟨_, hown⟩, _⟩ := h
  rcases hown with ⟨rfl, hn⟩ | ⟨g, cap, cur, rfl, _⟩
  · exact ⟨none, 0, by rw [hn]⟩
  · exact ⟨_, _, rfl⟩
theorem own_nil {S S' : Nat → Prop} {w : World} {base : Nat} {v : Value} (h : OwnL S w base [] v) : OwnL S' w base [] v := by
  obtain ⟨xs, hown, _⟩ := h
  exact ⟨xs, hown, fun i hi => by simp at hi⟩
/-- Two appends, one behind the other, onto a slice of the call's own. -/
theorem append_two (w : World) (base : Nat) {S : Nat → Prop} (hSb : ∀ k, S k → k < base) {l m : List V} {v sa sb : Value} (hl : OwnL S w base [] v) (ha : RepLG S w l sa) (hb : RepLG S w m sb) (hl1 : l.length ≤ 100) (hm1 : m.length ≤ 100) (hbase : base ≤ w.heap.size) :
    ∃ (a1 : Option Addr) (n1 c1 : Nat) (w1 : World) (a2 : Option Addr) (n2 c2 : Nat) (w2 : World), (Builtin.append_ #[22, 22] 22 #[v, sa]).run Tryd.prog w = .ok (.slice a1 n1 c1) w1 ∧ (Builtin.append_ #[22, 22] 22 #[.slice a1 n1 c1, sb]).run Tryd.prog w1 = .ok (.slice a2 n2 c2) w2 ∧
      OwnL S w2 base (l ++ m) (.slice a2 n2 c2) ∧ Below base w w1 ∧ Below base w w2 := by
  have low : ∀ {w : World} {l : List V} {v : Value}, OwnL S w base l v → ∀ k, v.ownBlock = some k → base ≤ k := by
    intro w l v h k hk
    obtain ⟨xs, ⟨_, hown⟩, _⟩ := h
    rcases hown with ⟨rfl, hn⟩ | ⟨g, cap, cur, rfl, hbg, hh, _⟩
    · simp [Value.ownBlock] at hk
    · simp [Value.ownBlock] at hk
      omega
  obtain ⟨v1, w1, r1, o1, g1, -⟩ := append_run w base 22 hl ha (fun k hk => ⟨by have := hSb k hk; omega, fun e => by have := low hl k e; have := hSb k hk; omega⟩) (by simp; omega) hbase
  have s1 := g1.size
  have b1 : Below base w w1 := ⟨g1.os, g1.tape, g1.output, g1.size, fun k hk => g1.block k (by omega) (fun e => by have := low hl k e.symm; omega)⟩
  obtain ⟨v2, w2, r2, o2, g2, -⟩ := append_run w1 base 22 o1 (hb.on (fun _ h => h) (fun k hk => b1.block k (hSb k hk))) (fun k hk => ⟨by have := hSb k hk; omega, fun e => by have := low o1 k e; have := hSb k hk; omega⟩) (by simp; omega) (by omega)
  have b2 : Below base w1 w2 := ⟨g2.os, g2.tape, g2.output, g2.size, fun k hk => g2.block k (by omega) (fun e => by have := low o1 k e.symm; omega)⟩
  rw [List.nil_append] at o2
  obtain ⟨a1, c1, rfl⟩ := own_slice o1
  obtain ⟨a2, c2, rfl⟩ := own_slice o2
  exact ⟨a1, _, c1, w1, a2, _, c2, w2, r1, r2, o2, b1, b1.trans b2⟩

/-- Both lists' elements, in a row of the call's own; the lists within lie where they lay. -/
def ConcatPost (B : Nat) (l : List V) (w : World) (e : Ending) (w' : World) : Prop := ∃ r, e = .returned r ∧ RepLG (fun b => b < B ∨ (w.heap.size ≤ b ∧ b < w'.heap.size)) w' l r ∧ Below w.heap.size w w'

set_option maxRecDepth 100000 in
set_option maxHeartbeats 4000000 in
theorem concat_any (l m : List V) (B : Nat) (w : World) (sa sb : Value) (b : Nat) (hB : B ≤ w.heap.size) (hb : w.heap[b]? = some (.cells #[sa, sb] 22 (0, 0))) (ha : RepL B w l sa) (hm : RepL B w m sb) (hl1 : l.length ≤ 100) (hm1 : m.length ≤ 100) :
    Calls Tryd.prog 60 #[.slice (some ⟨b, 0, none⟩) 2 2] w (ConcatPost B (l ++ m) w) := by
  have hlt : b < w.heap.size := (Array.getElem?_eq_some_iff.1 hb).1
  have HA := Lib.hid ha; have HM := Lib.hid hm
  obtain ⟨aa, ab, ao, ac, rfl, -⟩ := ha
  obtain ⟨ma, mb, mo, mc, rfl, -⟩ := hm
  have q0 := cell_of_block' (i := 0) hb _ rfl
  have q1 := cell_of_block' (i := 1) hb _ rfl
  have HB := Lib.hid hb
  clear hb
  go_enter Tryd.func60, Tryd.ntmps60
  go_wp2_with fail
  refine wp_loop_rounds 3 ?_
  rw [rounds_succ]
  go_wp2_with fail
  rw [rounds_succ]
  go_wp2_with fail
  rw [rounds_succ]
  go_wp2_with fail
  rw [show ((l.length : Int) + (m.length : Int)) = ((l.length + m.length : Nat) : Int) by omega]
  refine (grow_any w (l.length + m.length) (by omega)).mono ?_
  rintro e w1 ⟨ga, gc, rfl, hown, hb1⟩
  obtain ⟨a1, n1, c1, w2, a2, n2, c2, w3, r1, r2, o2, b2, b3⟩ := append_two (S := fun b => b < B) w1 w.heap.size (fun k hk => Nat.lt_of_lt_of_le hk hB) (own_nil hown) (RepLG.on (fun b hb => hb) (fun k hk => hb1.block k (Nat.lt_of_lt_of_le hk hB)) HA.out) (RepLG.on (fun b hb => hb) (fun k hk => hb1.block k (Nat.lt_of_lt_of_le hk hB)) HM.out) hl1 hm1 hb1.size
  have H1 := (hb1.block b hlt).trans HB.out
  have H2 := (b2.block b hlt).trans H1
  have H3 := (b3.block b hlt).trans H1
  clear q0 q1
  have q0 := cell_of_block' (i := 0) H1 _ rfl
  have q1 := cell_of_block' (i := 1) H2 _ rfl
  have R1 := Lib.hid r1; have R2 := Lib.hid r2
  have HO := Lib.hid (o2.rep (S' := fun b => b < B ∨ (w.heap.size ≤ b ∧ b < w3.heap.size)) (fun k hk => .inl hk) (fun g h1 hg => .inr ⟨h1, hg⟩) (by simp; omega))
  have HBB := Lib.hid (hb1.trans b3)
  clear r1 r2 o2 b2 b3 H1 H2 H3 hown hb1
  go_wp2_with fail
  refine wp_loop_rounds 3 ?_
  rw [rounds_succ]
  go_wp2_with (at_builtin; refine Lib.wpList_append_run _ rfl _ _ _ _ rfl _ _ rfl rfl _ _ R1.out ?_)
  rw [rounds_succ]
  go_wp2_with (at_builtin; refine Lib.wpList_append_run _ rfl _ _ _ _ rfl _ _ rfl rfl _ _ R2.out ?_)
  rw [rounds_succ]
  go_wp2_with fail
  go_ret
  exact ⟨_, rfl, HO.out, HBB.out⟩

end Go.Proofs.YtaomlkglodeaoaaDoor
