/-
  Layer 2's own 'names': a row of the nine functions' names.
-/
import Derived.Test.YtgkgnfafjbjbnaaDoorAwakeTwo
namespace Go.Proofs.YtgkgnfafjbjbnaaDoor
open Go.RowKit

/-- A row of strings in block b that holds the nine names. -/
def NamesAt (w : World) (b : Nat) : Prop := ∀ k, k < 9 → w.cell? ⟨b, k, none⟩ = some (.string ⟨(fname k).toArray⟩)
theorem NamesAt.on {w w' : World} {b : Nat} (h : NamesAt w b) (hb : Below w.heap.size w w') (hl : b < w.heap.size) : NamesAt w' b := fun k hk => (hb.cell (p := ⟨b, k, none⟩) hl).trans (h k hk)
def namesRow : Array Value := #[.string ⟨(fname 0).toArray⟩, .string ⟨(fname 1).toArray⟩, .string ⟨(fname 2).toArray⟩, .string ⟨(fname 3).toArray⟩, .string ⟨(fname 4).toArray⟩, .string ⟨(fname 5).toArray⟩, .string ⟨(fname 6).toArray⟩, .string ⟨(fname 7).toArray⟩, .string ⟨(fname 8).toArray⟩]
theorem names_new (w : World) (t : TypeId) : NamesAt (w.alloc (.cells namesRow t)) w.heap.size := by
  intro k hk
  refine cell_of_block' (alloc_new' w _) _ ?_
  match k, hk with
  | 0, _ => rfl | 1, _ => rfl | 2, _ => rfl | 3, _ => rfl | 4, _ => rfl | 5, _ => rfl | 6, _ => rfl | 7, _ => rfl | 8, _ => rfl
def NamesPost (w : World) (e : Ending) (w' : World) : Prop := e = .returned (.slice (some ⟨w.heap.size, 0, none⟩) 9 9) ∧ NamesAt w' w.heap.size ∧ w.heap.size < w'.heap.size ∧ Below w.heap.size w w'

set_option maxRecDepth 100000 in
set_option maxHeartbeats 1000000 in
theorem names_any (w : World) : Calls Tryd.prog 27 #[] w (NamesPost w) := by
  go_enter Tryd.func27, Tryd.ntmps27
  go_wp2_with fail
  go_ret
  exact ⟨rfl, names_new w _, by simp, (Below.refl _ w).alloc (Nat.le_refl _) _⟩

end Go.Proofs.YtgkgnfafjbjbnaaDoor
