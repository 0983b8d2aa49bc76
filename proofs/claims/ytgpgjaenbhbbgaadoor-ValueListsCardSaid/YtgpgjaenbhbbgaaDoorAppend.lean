/-
  'append' of a slice of values that came in.
-/
import Derived.Test.YtgpgjaenbhbbgaaDoorOwn
import Derived.Test.YtgpgjaenbhbbgaaDoorMakers
import Derived.Lib.SmallJoins
import Derived.Maps.AppendAt
namespace Go.Proofs.YtgpgjaenbhbbgaaDoor
open Go.RowKit

/-- The cells of a slice of values, one by one. -/
theorem RepLG.flat {S : Nat → Prop} {w : World} {l : List V} {a : Option Addr} {len cap : Nat} (h : RepLG S w l (.slice a len cap)) :
    len = l.length ∧ ∃ (b o : Nat) (xs : List Value), (0 < cap → a = some ⟨b, o, none⟩) ∧ xs.length = l.length * 4 ∧ (∀ j u, xs[j]? = some u → w.cell? ⟨b, o + j, none⟩ = some u) ∧ (∀ u ∈ xs, u.oneCell' = true) ∧ RepRow S w l xs.toArray := by
  obtain ⟨a', b, o, cap', e, h6, h7, h8, h9, h10⟩ := h
  cases e
  refine ⟨rfl, b, o, ?_⟩
  clear h6 h7 h9
  suffices H : ∀ n, n ≤ l.length → ∃ xs : List Value, xs.length = n * 4 ∧ (∀ j u, xs[j]? = some u → w.cell? ⟨b, o + j, none⟩ = some u) ∧ (∀ u ∈ xs, u.oneCell' = true) ∧ RepRow S w (l.take n) xs.toArray by
    obtain ⟨xs, h1, h2, h3, h4⟩ := H l.length (Nat.le_refl _)
    rw [List.take_length] at h4
    exact ⟨xs, h8, h1, h2, h3, h4⟩
  intro n
  induction n with
  | zero => exact fun _ => ⟨[], rfl, fun j u hj => by simp at hj, fun u hu => by simp at hu, fun i hi => by simp at hi⟩
  | succ n ih =>
    intro hn
    obtain ⟨xs, h1, h2, h3, h4⟩ := ih (by omega)
    obtain ⟨x0, x1, x2, x3, g0, g1, g2, g3, g⟩ := h10 n (by omega)
    obtain ⟨fa, fc, rfl, rfl, rfl, rfl⟩ := g.form
    refine ⟨xs ++ [.int .i64 l[n].kind, .int .i64 l[n].num, .string l[n].text, .slice fa l[n].list.length fc], by simp [h1]; omega, ?_, ?_, ?_⟩
    · intro j u hj
      by_cases hj1 : j < xs.length
      · rw [List.getElem?_append_left hj1] at hj; exact h2 j u hj
      · rw [List.getElem?_append_right (by omega)] at hj
        have hj2 : j - xs.length < 4 := by
          have := (List.getElem?_eq_some_iff.1 hj).1
          simpa using this
        obtain ⟨t, rfl⟩ : ∃ t, j = n * 4 + t := ⟨j - n * 4, by omega⟩
        have ht : n * 4 + t - xs.length = t := by omega
        rw [ht] at hj hj2
        match t, hj2, hj with
        | 0, _, hj => simp at hj; subst hj; exact g0
        | 1, _, hj => simp at hj; subst hj; exact g1
        | 2, _, hj => simp at hj; subst hj; exact g2
        | 3, _, hj => simp at hj; subst hj; exact g3
    · intro u hu
      rcases List.mem_append.1 hu with hu | hu
      · exact h3 u hu
      · simp at hu; rcases hu with rfl | rfl | rfl | rfl <;> rfl
    · rw [List.take_succ_eq_append_getElem (by omega)]
      exact row_snoc h4 (by rw [h1]; simp; omega) g

theorem row_append {S : Nat → Prop} {w : World} {l : List V} {xs : List Value} (h : RepRow S w l xs.toArray) (hl : xs.length = l.length * 4) {m : List V} {ys : List Value} (h' : RepRow S w m ys.toArray) : RepRow S w (l ++ m) (xs ++ ys).toArray := by
  intro i hi
  by_cases e : i < l.length
  · obtain ⟨z0, z1, z2, z3, g0, g1, g2, g3, g⟩ := h i e
    refine ⟨z0, z1, z2, z3, ?_, ?_, ?_, ?_, by rw [List.getElem_append_left e]; exact g⟩ <;>
    · simp only [List.getElem?_toArray] at *
      rw [List.getElem?_append_left (by omega)]
      assumption
  · have hi' : i - l.length < m.length := by simp at hi; omega
    obtain ⟨z0, z1, z2, z3, g0, g1, g2, g3, g⟩ := h' (i - l.length) hi'
    have e4 : i * 4 - xs.length = (i - l.length) * 4 := by omega
    refine ⟨z0, z1, z2, z3, ?_, ?_, ?_, ?_, by rw [List.getElem_append_right (by omega)]; exact g⟩ <;>
    · simp only [List.getElem?_toArray] at *
      rw [List.getElem?_append_right (by omega)]
      first
        | (rw [show i * 4 - xs.length = (i - l.length) * 4 by omega]; assumption)
        | (rw [show i * 4 + 1 - xs.length = (i - l.length) * 4 + 1 by omega]; assumption)
        | (rw [show i * 4 + 2 - xs.length = (i - l.length) * 4 + 2 by omega]; assumption)
        | (rw [show i * 4 + 3 - xs.length = (i - l.length) * 4 + 3 by omega]; assumption)

theorem add_lit' (b o j : Nat) : ((⟨b, o, none⟩ : Addr).add j) = ⟨b, o + j, none⟩ := by unfold Addr.add; split <;> simp_all

/-- 'append(v, x...)': what v owns, and behind it what x holds. -/
theorem append_run (w : World) (base : Nat) (ty : TypeId) {S : Nat → Prop} {l m : List V} {v x : Value} (hl : OwnL S w base l v) (hm : RepLG S w m x) (hS : ∀ k, S k → k < w.heap.size ∧ v.ownBlock ≠ some k)
    (hlen : (l.length + m.length) * 56 ≤ 140737488355328) (hbase : base ≤ w.heap.size) :
    ∃ v' w', (Builtin.append_ #[22, 22] ty #[v, x]).run Tryd.prog w = .ok v' w' ∧ OwnL S w' base (l ++ m) v' ∧ w.grownBy w' v.ownBlock ∧ (v'.ownBlock = v.ownBlock ∨ v'.ownBlock = some w.heap.size) := by
  obtain ⟨i0, hi, hz0, hz1, hz2⟩ := info_parts infoValue
  obtain ⟨xs, hown, hrow⟩ := hl
  obtain ⟨a, b, o, cap, rfl, -⟩ := id hm
  obtain ⟨-, b, o, ys, hx1, hx2, hx3, hx4, hx5⟩ := RepLG.flat hm
  have fin : ∀ v' w', w'.ownsRow base 24 4 v' (l.length + m.length) (xs ++ ys) → w.grownBy w' v.ownBlock → OwnL S w' base (l ++ m) v' := fun v' w' h1 h2 =>
    ⟨xs ++ ys, by rw [List.length_append]; exact h1, (row_append hrow hown.1 hx5).on (fun k hk => hk) (fun k hk => h2.block k (hS k hk).1 (fun e => (hS k hk).2 e.symm))⟩
  rcases a with _ | ad
  · have hm0 : m = [] := by
      by_cases hc : 0 < cap
      · have := hx1 hc; cases this
      · obtain ⟨a', b', o', cap', e', h6, _⟩ := hm
        cases e'
        exact List.length_eq_zero_iff.1 (by omega)
    subst hm0
    have hys : ys = [] := List.length_eq_zero_iff.1 (by simpa using hx2)
    subst hys
    have hc0 : cap = 0 := by
      by_cases hc : 0 < cap
      · have := hx1 hc; cases this
      · omega
    subst hc0
    have hrun := run_append_owned_none (P := Tryd.prog) (w := w) base 22 ty 24 i0 4 Tryd.underlying22 hi v l.length xs hown
    exact ⟨v, w, hrun, fin v w (by simpa using hown) (World.grownBy.refl w _), World.grownBy.refl w _, .inl rfl⟩
  · have hnews : ∀ j u, ys[j]? = some u → w.cell? (ad.add j) = some u := fun j u hj => by
      by_cases hc : 0 < cap
      · have := Option.some.inj (hx1 hc)
        subst this
        rw [add_lit']; exact hx3 j u hj
      · obtain ⟨a', b', o', cap', e', h6, _⟩ := hm
        cases e'
        have : ys = [] := List.length_eq_zero_iff.1 (by rw [hx2]; omega)
        rw [this] at hj; simp at hj
    obtain ⟨v', w', hrun, h1, h2, _, h5⟩ := run_append_own_at (P := Tryd.prog) w base 22 ty 24 i0 _ 4 56 Tryd.underlying22 hi hz0 hz1 hz2 rfl (by decide) v l.length xs hown ad m.length cap ys hx2 hnews hx4 (by unfold maxLen; omega) hlen hbase
    exact ⟨v', w', hrun, fin v' w' h1 h2, h2, h5⟩

/-- The operation itself, by what it is known to run to. -/
theorem wpList_append_by {P : Program} {w w' : World} {ops : Array Oper} {rest : List Oper} {o : Oper} {a : Act} {Q : Exit → Act → World → Prop} (hgd : o.guard = none) (s x : Operand) (t : TypeId)
    (ho : o.op = .call { callee := .builtin .append, args := #[s, x], argTypes := #[t, t] }) {v xv v' : Value} (hs : a.eval s = v) (hx : a.eval x = xv) (hrun : (Builtin.append_ #[t, t] o.type #[v, xv]).run P w = .ok v' w')
    (h : wpList P ops Q rest (a.put o.dst v') w') : wpList P ops Q (o :: rest) a w := by
  refine wpList_plain hgd fun K hK => ?_
  unfold Oper.wp execOp
  simp only [ho, resolve, invoke, builtin, Sem.run_bind, Sem.run_pure, Result.andThen_ok, List.map_toArray, List.map_cons, List.map_nil, hs, hx, hrun]
  exact hK _ _ h

end Go.Proofs.YtgpgjaenbhbbgaaDoor
