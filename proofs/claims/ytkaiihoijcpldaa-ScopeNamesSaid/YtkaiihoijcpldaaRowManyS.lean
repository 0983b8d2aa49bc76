/-
  'append(v, x...)' where x's own row may be anywhere; rows of values as slices of a kind; 'append(append([]T(nil), l...), y)'.
-/
import Derived.Test.YtkaiihoijcpldaaW16
import Derived.Test.YtkaiihoijcpldaaW04
namespace Go.Proofs.Ytkaiihoijcpldaa
open Go.RowKit

/-- 'append(v, x...)', x's own row wherever it is. -/
theorem own_manyS {α : Type} {K : Kd α} {S S1 : Nat → Prop} {w : World} {base : Nat} {L m : List α} {lv x : Value} (hown : OwnK K S w base L lv) (hm : SlG S1 w K.n K.bytes (K.R S w) m x) (hS : ∀ k, S k → k < w.heap.size ∧ lv.ownBlock ≠ some k)
    (hbase : base ≤ w.heap.size) (hlen : L.length + m.length ≤ 100000) (ty : TypeId) :
    ∃ (v' : Value) (w6 : World), (Builtin.append_ #[K.ST, K.ST] ty #[lv, x]).run Try.prog w = .ok v' w6 ∧ OwnK K S w6 base (L ++ m) v' ∧ w.grownBy w6 lv.ownBlock := by
  obtain ⟨i0, z, hi, hz0, hz1, hz2, hz3⟩ := K.info
  obtain ⟨xs, hrow, hr⟩ := hown
  have hby : (L.length + m.length) * K.bytes ≤ 140737488355328 := by
    have := Nat.mul_le_mul hlen K.few
    omega
  have keep : ∀ w6 : World, w.grownBy w6 lv.ownBlock → ∀ k, S k → w6.heap[k]? = w.heap[k]? := fun w6 hg k hk => hg.block k (hS k hk).1 (fun e => (hS k hk).2 e.symm)
  obtain ⟨a, cap, rfl⟩ := SlG.form hm
  rcases a with _ | ⟨b, o, sp⟩
  · obtain ⟨a', b', o', cap', e, h6, h7, h8, h9, h10⟩ := id hm
    cases e
    have hc0 : cap = 0 := by
      by_cases hc : 0 < cap
      · have := h8 hc; cases this
      · omega
    subst hc0
    obtain rfl : m = [] := List.length_eq_zero_iff.1 (by omega)
    have hrun := run_append_owned_none (P := Try.prog) (w := w) base K.ST ty K.T i0 K.n K.und hi lv L.length xs hrow
    exact ⟨lv, w, hrun, ⟨xs, by simpa using hrow, fun i hi' => by
      have hi2 : i < L.length := by simpa using hi'
      obtain ⟨c, hc, hR⟩ := hr i hi2
      exact ⟨c, hc, by simpa using hR⟩⟩, World.grownBy.refl w _⟩
  · have hsp : sp = none ∨ m = [] ∧ cap = 0 := by
      obtain ⟨a', b', o', cap', e, h6, h7, h8, h9, h10⟩ := id hm
      cases e
      by_cases hc : 0 < cap
      · have := h8 hc
        injection this with e; injection e with e1 e2 e3
        exact .inl e3
      · exact .inr ⟨List.length_eq_zero_iff.1 (by omega), by omega⟩
    have main : ∀ (ys : List Value), ys.length = m.length * K.n → (∀ j u, ys[j]? = some u → w.cell? ((⟨b, o, sp⟩ : Addr).add j) = some u) → (∀ i (h : i < m.length), ∃ f : Nat → Value, (∀ j, j < K.n → ys[i * K.n + j]? = some (f j)) ∧ K.R S w m[i] f) → (∀ u ∈ ys, u.oneCell' = true) → m.length ≤ cap →
        ∃ (v' : Value) (w6 : World), (Builtin.append_ #[K.ST, K.ST] ty #[lv, .slice (some ⟨b, o, sp⟩) m.length cap]).run Try.prog w = .ok v' w6 ∧ OwnK K S w6 base (L ++ m) v' ∧ w.grownBy w6 lv.ownBlock := by
      intro ys hy1 hy2 hy3 hy4 hcap
      obtain ⟨v', w6, hrun, h1, h2, _, h5⟩ := run_append_own_at (P := Try.prog) w base K.ST ty K.T i0 z K.n K.bytes K.und hi hz0 hz1 hz2 hz3 K.pos lv L.length xs hrow ⟨b, o, sp⟩ m.length cap ys hy1 hy2 hy4 (by unfold maxLen; omega) hby hbase
      refine ⟨v', w6, hrun, ⟨xs ++ ys, by rw [List.length_append]; exact h1, fun i hi' => ?_⟩, h2⟩
      by_cases hlt : i < L.length
      · obtain ⟨c', hc', hR⟩ := hr i hlt
        refine ⟨c', fun j hj => ?_, by rw [List.getElem_append_left hlt]; exact K.on (fun _ h => h) (keep w6 h2) hR⟩
        have hil : i * K.n + j < xs.length := by
          rw [hrow.1]
          have : (i + 1) * K.n ≤ L.length * K.n := Nat.mul_le_mul_right _ hlt
          rw [Nat.succ_mul] at this; omega
        rw [List.getElem?_append_left hil]; exact hc' j hj
      · have hi2 : i - L.length < m.length := by rw [List.length_append] at hi'; omega
        obtain ⟨c, hc, hR⟩ := hy3 (i - L.length) hi2
        refine ⟨c, fun j hj => ?_, by rw [List.getElem_append_right (by omega)]; exact K.on (fun _ h => h) (keep w6 h2) hR⟩
        have hge : L.length * K.n ≤ i * K.n := Nat.mul_le_mul_right _ (by omega)
        rw [List.getElem?_append_right (by rw [hrow.1]; omega), hrow.1, show i * K.n + j - L.length * K.n = (i - L.length) * K.n + j by rw [Nat.sub_mul]; omega]
        exact hc j hj
    rcases hsp with rfl | ⟨rfl, rfl⟩
    · obtain ⟨-, f2, ys, f3, f4, f5, f6⟩ := SlG.flat K.pos hm
      exact main ys f3 (fun j u hu => by rw [add_lit']; exact f4 j u hu) f5 (fun u hu => by
        obtain ⟨i, hi', f, j, hj, rfl, hR⟩ := f6 u hu
        exact K.one hR j hj) f2
    · exact main [] (by simp) (fun j u hu => by simp at hu) (fun i h => by simp at h) (fun u hu => by cases hu) (Nat.le_refl _)

theorem slgS_of_lg {S : Nat → Prop} {w : World} {l : List V} {v : Value} (h : RepLG S w l v) : SlG S w kdV.n kdV.bytes (kdV.R S w) l v := by
  obtain ⟨a, b, o, cap, e, h6, h7, h8, h9, h10⟩ := h
  refine ⟨a, b, o, cap, e, h6, h7, h8, h9, fun i hi => ?_⟩
  obtain ⟨x0, x1, x2, x3, g0, g1, g2, g3, g⟩ := h10 i hi
  exact ⟨at4v x0 x1 x2 x3, fun j hj => match j, hj with
    | 0, _ => g0 | 1, _ => g1 | 2, _ => g2 | 3, _ => g3, g⟩
theorem lgS_of_slg {S : Nat → Prop} {w : World} {l : List V} {v : Value} (h : SlG S w kdV.n kdV.bytes (kdV.R S w) l v) : RepLG S w l v := by
  obtain ⟨a, b, o, cap, e, h6, h7, h8, h9, h10⟩ := h
  refine ⟨a, b, o, cap, e, h6, h7, h8, h9, fun i hi => ?_⟩
  obtain ⟨c, hc, hr⟩ := h10 i hi
  exact ⟨c 0, c 1, c 2, c 3, hc 0 (show 0 < 4 by omega), hc 1 (show 1 < 4 by omega), hc 2 (show 2 < 4 by omega), hc 3 (show 3 < 4 by omega), hr⟩
/-- A row of one element, its cells told one by one. -/
theorem one_row {α : Type} {K : Kd α} {S S1 : Nat → Prop} {w : World} {y : α} {b : Nat} {cs : Array Value} {t : TypeId} {fz : Nat × Nat} {c : Nat → Value} (hb : w.heap[b]? = some (.cells cs t fz)) (hS : S1 b) (hc : ∀ j, j < K.n → cs[j]? = some (c j)) (hR : K.R S w y c) :
    SlG S1 w K.n K.bytes (K.R S w) [y] (.slice (some ⟨b, 0, none⟩) 1 1) := by
  refine ⟨_, b, 0, 1, rfl, Nat.le_refl _, ?_, fun _ => rfl, fun _ => hS, fun i hi => ?_⟩
  · have := K.few; simp; omega
  · obtain rfl : i = 0 := by simp at hi; omega
    refine ⟨c, fun j hj => ?_, hR⟩
    rw [show 0 + 0 * K.n + j = j by omega]
    exact cell_of_block' hb _ (hc j hj)

end Go.Proofs.Ytkaiihoijcpldaa
