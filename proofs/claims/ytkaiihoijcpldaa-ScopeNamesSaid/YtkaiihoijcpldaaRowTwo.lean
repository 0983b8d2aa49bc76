/-
  Two rows of a call's own beside each other: an append to the one leaves the other.
-/
import Derived.Test.YtkaiihoijcpldaaRowManyS
namespace Go.Proofs.Ytkaiihoijcpldaa
open Go.RowKit

/-- 'append(v, x...)', x's own row wherever it is. -/
theorem own_manyH {α : Type} {K : Kd α} {S S1 : Nat → Prop} {w : World} {base : Nat} {L m : List α} {lv x : Value} (hown : OwnK K S w base L lv) (hm : SlG S1 w K.n K.bytes (K.R S w) m x) (hS : ∀ k, S k → k < w.heap.size ∧ lv.ownBlock ≠ some k)
    (hbase : base ≤ w.heap.size) (hlen : L.length + m.length ≤ 100000) (ty : TypeId) :
    ∃ (v' : Value) (w6 : World), (Builtin.append_ #[K.ST, K.ST] ty #[lv, x]).run Try.prog w = .ok v' w6 ∧ OwnK K S w6 base (L ++ m) v' ∧ w.grownBy w6 lv.ownBlock ∧ (v'.ownBlock = lv.ownBlock ∨ v'.ownBlock = some w.heap.size) := by
  obtain ⟨i0, z, hi, hz0, hz1, hz2, hz3⟩ := K.info
  obtain ⟨xs, hrow, hr⟩ := hown
  have hby : (L.length + m.length) * K.bytes ≤ 140737488355328 := by
    have := Nat.mul_le_mul hlen K.few
    omega
  have keep : ∀ w6 : World, w.grownBy w6 lv.ownBlock → ∀ k, S k → w6.heap[k]? = w.heap[k]? := fun w6 hg k hk => hg.block k (hS k hk).1 (fun e => (hS k hk).2 e.symm)
  obtain ⟨a, cap, rfl⟩ := SlG.form hm
  rcases a with _ | ⟨b, o, sp⟩
  · obtain ⟨a', b', o', cap', e, h6, h7, h8, h9, h10⟩ := id hm
    cases e
    have hc0 : cap = 0 := by
      by_cases hc : 0 < cap
      · have := h8 hc; cases this
      · omega
    subst hc0
    obtain rfl : m = [] := List.length_eq_zero_iff.1 (by omega)
    have hrun := run_append_owned_none (P := Try.prog) (w := w) base K.ST ty K.T i0 K.n K.und hi lv L.length xs hrow
    exact ⟨lv, w, hrun, ⟨xs, by simpa using hrow, fun i hi' => by
      have hi2 : i < L.length := by simpa using hi'
      obtain ⟨c, hc, hR⟩ := hr i hi2
      exact ⟨c, hc, by simpa using hR⟩⟩, World.grownBy.refl w _, .inl rfl⟩
  · have hsp : sp = none ∨ m = [] ∧ cap = 0 := by
      obtain ⟨a', b', o', cap', e, h6, h7, h8, h9, h10⟩ := id hm
      cases e
      by_cases hc : 0 < cap
      · have := h8 hc
        injection this with e; injection e with e1 e2 e3
        exact .inl e3
      · exact .inr ⟨List.length_eq_zero_iff.1 (by omega), by omega⟩
    have main : ∀ (ys : List Value), ys.length = m.length * K.n → (∀ j u, ys[j]? = some u → w.cell? ((⟨b, o, sp⟩ : Addr).add j) = some u) → (∀ i (h : i < m.length), ∃ f : Nat → Value, (∀ j, j < K.n → ys[i * K.n + j]? = some (f j)) ∧ K.R S w m[i] f) → (∀ u ∈ ys, u.oneCell' = true) → m.length ≤ cap →
        ∃ (v' : Value) (w6 : World), (Builtin.append_ #[K.ST, K.ST] ty #[lv, .slice (some ⟨b, o, sp⟩) m.length cap]).run Try.prog w = .ok v' w6 ∧ OwnK K S w6 base (L ++ m) v' ∧ w.grownBy w6 lv.ownBlock ∧ (v'.ownBlock = lv.ownBlock ∨ v'.ownBlock = some w.heap.size) := by
      intro ys hy1 hy2 hy3 hy4 hcap
      obtain ⟨v', w6, hrun, h1, h2, _, h5⟩ := run_append_own_at (P := Try.prog) w base K.ST ty K.T i0 z K.n K.bytes K.und hi hz0 hz1 hz2 hz3 K.pos lv L.length xs hrow ⟨b, o, sp⟩ m.length cap ys hy1 hy2 hy4 (by unfold maxLen; omega) hby hbase
      refine ⟨v', w6, hrun, ⟨xs ++ ys, by rw [List.length_append]; exact h1, fun i hi' => ?_⟩, h2, h5⟩
      by_cases hlt : i < L.length
      · obtain ⟨c', hc', hR⟩ := hr i hlt
        refine ⟨c', fun j hj => ?_, by rw [List.getElem_append_left hlt]; exact K.on (fun _ h => h) (keep w6 h2) hR⟩
        have hil : i * K.n + j < xs.length := by
          rw [hrow.1]
          have : (i + 1) * K.n ≤ L.length * K.n := Nat.mul_le_mul_right _ hlt
          rw [Nat.succ_mul] at this; omega
        rw [List.getElem?_append_left hil]; exact hc' j hj
      · have hi2 : i - L.length < m.length := by rw [List.length_append] at hi'; omega
        obtain ⟨c, hc, hR⟩ := hy3 (i - L.length) hi2
        refine ⟨c, fun j hj => ?_, by rw [List.getElem_append_right (by omega)]; exact K.on (fun _ h => h) (keep w6 h2) hR⟩
        have hge : L.length * K.n ≤ i * K.n := Nat.mul_le_mul_right _ (by omega)
        rw [List.getElem?_append_right (by rw [hrow.1]; omega), hrow.1, show i * K.n + j - L.length * K.n = (i - L.length) * K.n + j by rw [Nat.sub_mul]; omega]
        exact hc j hj
    rcases hsp with rfl | ⟨rfl, rfl⟩
    · obtain ⟨-, f2, ys, f3, f4, f5, f6⟩ := SlG.flat K.pos hm
      exact main ys f3 (fun j u hu => by rw [add_lit']; exact f4 j u hu) f5 (fun u hu => by
        obtain ⟨i, hi', f, j, hj, rfl, hR⟩ := f6 u hu
        exact K.one hR j hj) f2
    · exact main [] (by simp) (fun j u hu => by simp at hu) (fun i h => by simp at h) (fun u hu => by cases hu) (Nat.le_refl _)


/-- Two rows of one's own, in unlike blocks. -/
def TwoK {α : Type} (K : Kd α) (S : Nat → Prop) (w : World) (B : Nat) (L1 : List α) (v1 : Value) (L2 : List α) (v2 : Value) : Prop :=
  OwnK K S w B L1 v1 ∧ OwnK K S w B L2 v2 ∧ ∀ k, v1.ownBlock = some k → v2.ownBlock ≠ some k
theorem TwoK.nil {α : Type} {K : Kd α} (S : Nat → Prop) (w : World) (B : Nat) : TwoK K S w B [] (.slice none 0 0) [] (.slice none 0 0) := ⟨OwnK.nil _ _ _, OwnK.nil _ _ _, fun k h => by simp [Value.ownBlock] at h⟩
theorem TwoK.swap {α : Type} {K : Kd α} {S : Nat → Prop} {w : World} {B : Nat} {L1 L2 : List α} {v1 v2 : Value} (h : TwoK K S w B L1 v1 L2 v2) : TwoK K S w B L2 v2 L1 v1 := ⟨h.2.1, h.1, fun k h2 h1 => h.2.2 k h1 h2⟩
theorem TwoK.on {α : Type} {K : Kd α} {S : Nat → Prop} {w w' : World} {B : Nat} {L1 L2 : List α} {v1 v2 : Value} (h : TwoK K S w B L1 v1 L2 v2) (hS : ∀ k, S k → k < w.heap.size) (hb : Below w.heap.size w w') : TwoK K S w' B L1 v1 L2 v2 :=
  ⟨OwnK.on h.1 (fun _ h => h) (fun k hk => hb.block k (hS k hk)) (fun k _ hk _ => hb.block k hk), OwnK.on h.2.1 (fun _ h => h) (fun k hk => hb.block k (hS k hk)) (fun k _ hk _ => hb.block k hk), h.2.2⟩
theorem TwoK.left {α : Type} {K : Kd α} {S : Nat → Prop} {w : World} {B : Nat} {L1 L2 : List α} {v1 v2 : Value} {y : α} {b : Nat} {cs : Array Value} {t : TypeId} {fz : Nat × Nat} {c : Nat → Value} (h : TwoK K S w B L1 v1 L2 v2) (hB : B ≤ w.heap.size) (hS : ∀ k, S k → k < B) (hlen : L1.length ≤ 1000)
    (hb : w.heap[b]? = some (.cells cs t fz)) (hc : ∀ j, j < K.n → cs[j]? = some (c j)) (hR : K.R S w y c) (ty : TypeId) :
    ∃ (a : Option Addr) (cap : Nat) (w6 : World), (Builtin.append_ #[K.ST, K.ST] ty #[v1, .slice (some ⟨b, 0, none⟩) 1 1]).run Try.prog w = .ok (.slice a (L1.length + 1) cap) w6 ∧ TwoK K S w6 B (L1 ++ [y]) (.slice a (L1.length + 1) cap) L2 v2 ∧ Below B w w6 := by
  obtain ⟨v', w6, hrun, ho, hg, h5⟩ := own_manyH (S1 := fun _ => True) (m := [y]) h.1 (one_row (S := S) (c := c) hb trivial hc hR) (fun k hk => ⟨Nat.lt_of_lt_of_le (hS k hk) hB, fun e => by have := (OwnK.lies h.1 k e).1; have := hS k hk; omega⟩) hB (by simp; omega) ty
  obtain ⟨a, cap, rfl⟩ := OwnK.form ho
  rw [List.length_append, List.length_singleton] at hrun ho h5
  refine ⟨a, cap, w6, hrun, ⟨ho, OwnK.on h.2.1 (fun _ h => h) (fun k hk => hg.block k (Nat.lt_of_lt_of_le (hS k hk) hB) (fun e => by have := (OwnK.lies h.1 k e.symm).1; have := hS k hk; omega)) (fun k h1 h2 h3 => hg.block k h2 (fun e => h.2.2 k e.symm h3)), fun k hk h3 => ?_⟩, ⟨hg.os, hg.tape, hg.output, hg.size, fun k hk => hg.block k (by omega) (fun e => by have := (OwnK.lies h.1 k e.symm).1; omega)⟩⟩
  rcases h5 with h5 | h5
  · exact h.2.2 k (h5.symm.trans hk) h3
  · rw [h5] at hk
    have := (OwnK.lies h.2.1 k h3).2
    have := Option.some.inj hk
    omega

end Go.Proofs.Ytkaiihoijcpldaa
