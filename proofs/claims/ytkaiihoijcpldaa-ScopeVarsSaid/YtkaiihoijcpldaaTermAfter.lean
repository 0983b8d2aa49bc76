/-
  What stands behind an append to a row of one's own; rows of one.
-/
import Derived.Test.YtkaiihoijcpldaaTermKit
namespace Go.Proofs.Ytkaiihoijcpldaa
open Go.RowKit

/-- Behind an append to lv's row: all that lay in w below, but for that row, stands. -/
structure After (w : World) (bo : Nat) (lv : Value) (w' : World) : Prop where
  below : Below (bo + 1) w w'
  block : ∀ k, k < w.heap.size → lv.ownBlock ≠ some k → w'.heap[k]? = w.heap[k]?
  size : w.heap.size ≤ w'.heap.size
theorem After.of {α : Type} {K : Kd α} {w w1 w' : World} {bo : Nat} {L : List α} {lv : Value} (ho : MineK K w (bo + 1) L lv) (hb : bo < w.heap.size) (hg : Below w.heap.size w w1) (h : w1.grownBy w' lv.ownBlock) : After w bo lv w' := by
  have h1 := hg.size
  have h2 := h.size
  refine ⟨⟨h.os.trans hg.os, h.tape.trans hg.tape, h.output.trans hg.output, by omega, fun k hk => ?_⟩, fun k hk hne => ?_, by omega⟩
  · exact (h.block k (by omega) (fun e => by have := (OwnK.lies ho k e.symm).1; omega)).trans (hg.block k (by omega))
  · exact (h.block k (by omega) (fun e => hne e.symm)).trans (hg.block k hk)
theorem After.box {α : Type} {K : Kd α} {w w' : World} {bo b : Nat} {L : List α} {lv : Value} (h : After w bo lv w') {o : Obj} (hx : w.heap[b]? = some o) (_ho : MineK K w (bo + 1) L lv) (hb : b < bo + 1) : w'.heap[b]? = some o :=
  (h.below.block b hb).trans hx
theorem row1_stay {w0 : Nat} {y : Tm} {w w' : World} {v : Value} (hb : Below w.heap.size w w') (h : ∃ b c0 c1 c2 c3 c4 c5 c6, v = .slice (some ⟨b, 0, none⟩) 1 1 ∧ w.heap[b]? = some (.cells #[c0, c1, c2, c3, c4, c5, c6] 48 (0, 0)) ∧ w0 ≤ b ∧ RepM (fun b => w0 ≤ b ∧ b < w.heap.size) w y c0 c1 c2 c3 c4 c5 c6) :
    ∃ b c0 c1 c2 c3 c4 c5 c6, v = .slice (some ⟨b, 0, none⟩) 1 1 ∧ w'.heap[b]? = some (.cells #[c0, c1, c2, c3, c4, c5, c6] 48 (0, 0)) ∧ w0 ≤ b ∧ RepM (fun b => w0 ≤ b ∧ b < w'.heap.size) w' y c0 c1 c2 c3 c4 c5 c6 := by
  obtain ⟨b, c0, c1, c2, c3, c4, c5, c6, e, h1, h2, h3⟩ := h
  exact ⟨b, c0, c1, c2, c3, c4, c5, c6, e, (hb.block b (Array.getElem?_eq_some_iff.1 h1).1).trans h1, h2, RepM.on (fun k hk => ⟨hk.1, Nat.lt_of_lt_of_le hk.2 hb.size⟩) (fun k hk => hb.block k hk.2) y h3⟩
theorem row1_new {w0 : Nat} {y : Tm} {w : World} {c0 c1 c2 c3 c4 c5 c6 : Value} (hs : w0 ≤ w.heap.size) (h : RepM (fun b => w0 ≤ b ∧ b < w.heap.size) w y c0 c1 c2 c3 c4 c5 c6) :
    ∃ b d0 d1 d2 d3 d4 d5 d6, (.slice (some ⟨w.heap.size, 0, none⟩) 1 1 : Value) = .slice (some ⟨b, 0, none⟩) 1 1 ∧ (w.alloc (.cells #[c0, c1, c2, c3, c4, c5, c6] 48)).heap[b]? = some (.cells #[d0, d1, d2, d3, d4, d5, d6] 48 (0, 0)) ∧ w0 ≤ b ∧ RepM (fun b => w0 ≤ b ∧ b < (w.alloc (.cells #[c0, c1, c2, c3, c4, c5, c6] 48)).heap.size) (w.alloc (.cells #[c0, c1, c2, c3, c4, c5, c6] 48)) y d0 d1 d2 d3 d4 d5 d6 :=
  ⟨_, _, _, _, _, _, _, _, rfl, alloc_new' w _, hs, RepM.on (fun k hk => ⟨hk.1, by simp; omega⟩) (fun k hk => Below.heap_alloc _ _ _ hk.2) y h⟩
def at7v (c0 c1 c2 c3 c4 c5 c6 : Value) : Nat → Value
  | 0 => c0 | 1 => c1 | 2 => c2 | 3 => c3 | 4 => c4 | 5 => c5 | _ => c6

end Go.Proofs.Ytkaiihoijcpldaa
