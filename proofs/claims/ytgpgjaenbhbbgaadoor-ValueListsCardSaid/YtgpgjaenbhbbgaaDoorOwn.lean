/-
  A slice of values that the call itself has made and appends to.
-/
import Derived.Test.YtgpgjaenbhbbgaaDoorList
namespace Go.Proofs.YtgpgjaenbhbbgaaDoor
open Go.RowKit

/-- The call's own row (from block 'base' on) holds the values of l; their lists' rows lie in S. -/
def OwnL (S : Nat → Prop) (w : World) (base : Nat) (l : List V) (v : Value) : Prop :=
  ∃ xs, w.ownsRow base 24 4 v l.length xs ∧ RepRow S w l xs.toArray

theorem OwnL.nil (S : Nat → Prop) (w : World) (base : Nat) : OwnL S w base [] (.slice none 0 0) :=
  ⟨[], World.ownsRow_nil _ _ _ _, fun i hi => by simp at hi⟩

theorem row_snoc {S : Nat → Prop} {w : World} {l : List V} {xs : List Value} (h : RepRow S w l xs.toArray) (hl : xs.length = l.length * 4) {x : V} {y0 y1 y2 y3 : Value} (hx : RepG S w x y0 y1 y2 y3) : RepRow S w (l ++ [x]) (xs ++ [y0, y1, y2, y3]).toArray := by
  intro i hi
  by_cases e : i < l.length
  · obtain ⟨z0, z1, z2, z3, g0, g1, g2, g3, g⟩ := h i e
    refine ⟨z0, z1, z2, z3, ?_, ?_, ?_, ?_, by rw [List.getElem_append_left e]; exact g⟩ <;>
    · simp only [List.getElem?_toArray] at *
      rw [List.getElem?_append_left (by omega)]
      assumption
  · simp only [List.length_append, List.length_cons, List.length_nil] at hi
    obtain rfl : i = l.length := by omega
    refine ⟨y0, y1, y2, y3, ?_, ?_, ?_, ?_, by simpa using hx⟩ <;>
    · simp only [List.getElem?_toArray]
      rw [List.getElem?_append_right (by omega)]
      simp [hl]

/-- The row as a slice of values, wherever its own block is in S'. -/
theorem OwnL.rep {S S' : Nat → Prop} {w : World} {base : Nat} {l : List V} {v : Value} (h : OwnL S w base l v) (hS : ∀ k, S k → S' k) (hg : ∀ g, base ≤ g → g < w.heap.size → S' g) (hb : l.length * 56 ≤ 140737488355328) : RepLG S' w l v := by
  obtain ⟨xs, ⟨hlen, hown⟩, hr⟩ := h
  rcases hown with ⟨rfl, hn⟩ | ⟨g, cap, cur, rfl, hbg, hh, hnc, hcm, hcs, htk⟩
  · obtain rfl : l = [] := List.length_eq_zero_iff.1 hn
    exact ⟨none, 0, 0, 0, rfl, Nat.le_refl _, by simp, fun h => by omega, fun h => by simp at h, fun i hi => by simp at hi⟩
  · have hr' : RepRow S w l cur := by
      intro i hi
      obtain ⟨z0, z1, z2, z3, g0, g1, g2, g3, gg⟩ := hr i hi
      have key : ∀ j v, j < l.length * 4 → xs.toArray[j]? = some v → cur[j]? = some v := by
        intro j v hj hv
        rw [List.getElem?_toArray, ← htk, List.getElem?_take, if_pos hj] at hv
        rw [← Array.getElem?_toList]; exact hv
      exact ⟨z0, z1, z2, z3, key _ _ (by omega) g0, key _ _ (by omega) g1, key _ _ (by omega) g2, key _ _ (by omega) g3, gg⟩
    exact (hr'.on hS (fun _ _ => rfl)).slice hh (hg g hbg (Array.getElem?_eq_some_iff.1 hh).1) hnc hb

theorem OwnL.on {S S' : Nat → Prop} {w w' : World} {base : Nat} {l : List V} {v : Value} (h : OwnL S w base l v) (hS : ∀ k, S k → S' k) (hw : ∀ k, S k → w'.heap[k]? = w.heap[k]?) (ho : ∀ k, base ≤ k → k < w.heap.size → v.ownBlock = some k → w'.heap[k]? = w.heap[k]?) : OwnL S' w' base l v := by
  obtain ⟨xs, ⟨hlen, hown⟩, hr⟩ := h
  refine ⟨xs, ⟨hlen, ?_⟩, hr.on hS hw⟩
  rcases hown with h | ⟨g, cap, cur, rfl, hbg, hh, r⟩
  · exact .inl h
  · exact .inr ⟨g, cap, cur, rfl, hbg, (ho g hbg (Array.getElem?_eq_some_iff.1 hh).1 rfl).trans hh, r⟩

/-- Every block that there was stands. -/
theorem OwnL.stands {S S' : Nat → Prop} {w w' : World} {base : Nat} {l : List V} {v : Value} (h : OwnL S w base l v) (hS : ∀ k, S k → S' k ∧ k < w.heap.size) (hb : Below w.heap.size w w') : OwnL S' w' base l v :=
  h.on (fun k hk => (hS k hk).1) (fun k hk => hb.block k (hS k hk).2) (fun k _ hk _ => hb.block k hk)

theorem OwnL.own {S : Nat → Prop} {w : World} {base : Nat} {l : List V} {v : Value} (h : OwnL S w base l v) : ∃ xs, w.ownsRow base 24 4 v l.length xs ∧ RepRow S w l xs.toArray := h

/-- Behind an append of one value. -/
theorem OwnL.snoc {S S' : Nat → Prop} {w w' : World} {base : Nat} {l : List V} {v v' : Value} {xs : List Value} (hr : RepRow S w l xs.toArray) (hlen : xs.length = l.length * 4) {x : V} {y0 y1 y2 y3 : Value} (hx : RepG S w x y0 y1 y2 y3)
    (hown' : w'.ownsRow base 24 4 v' (l.length + 1) (xs ++ [y0, y1, y2, y3])) (hg : w.grownBy w' v.ownBlock) (hS : ∀ k, S k → S' k ∧ k < w.heap.size ∧ v.ownBlock ≠ some k) : OwnL S' w' base (l ++ [x]) v' :=
  ⟨xs ++ [y0, y1, y2, y3], by simpa using hown', (row_snoc hr hlen hx).on (fun k hk => (hS k hk).1) (fun k hk => hg.block k (hS k hk).2.1 (fun e => (hS k hk).2.2 e.symm))⟩

end Go.Proofs.YtgpgjaenbhbbgaaDoor
