/-
  New terms, and rows of two.
-/
import Derived.Test.YtkaiihoijcpldaaTermLeaf
namespace Go.Proofs.Ytkaiihoijcpldaa
open Go.RowKit

/-- A term made in blocks from B on. -/
def MadeAt (B : Nat) (y : Tm) (w : World) (v : Value) : Prop := ∃ c0 c1 c2 c3 c4 c5 c6, v = .agg #[c0, c1, c2, c3, c4, c5, c6] ∧ RepM (fun b => B ≤ b ∧ b < w.heap.size) w y c0 c1 c2 c3 c4 c5 c6
theorem MadeAt.stay {B : Nat} {y : Tm} {w w' : World} {v : Value} (hb : Below w.heap.size w w') (h : MadeAt B y w v) : MadeAt B y w' v := by
  obtain ⟨c0, c1, c2, c3, c4, c5, c6, e, h⟩ := h
  exact ⟨c0, c1, c2, c3, c4, c5, c6, e, RepM.on (fun k hk => ⟨hk.1, Nat.lt_of_lt_of_le hk.2 hb.size⟩) (fun k hk => hb.block k hk.2) y h⟩
def RowAt (B : Nat) (l : List Tm) (w : World) (v : Value) : Prop := ∃ ra rn rc, v = .slice ra rn rc ∧ RepMs (fun b => B ≤ b ∧ b < w.heap.size) w l v
theorem RowAt.stay {B : Nat} {l : List Tm} {w w' : World} {v : Value} (hb : Below w.heap.size w w') (h : RowAt B l w v) : RowAt B l w' v := by
  obtain ⟨a, b, c, e, h⟩ := h
  exact ⟨a, b, c, e, RepMs.on (fun k hk => ⟨hk.1, Nat.lt_of_lt_of_le hk.2 hb.size⟩) (fun k hk => hb.block k hk.2) h⟩
theorem MadeAt.of {B : Nat} {y : Tm} {w w' : World} {e : Ending} (hB : B ≤ w.heap.size) (h : MadeM y w e w') : ∃ v, e = .returned v ∧ MadeAt B y w' v ∧ Below w.heap.size w w' := by
  obtain ⟨c0, c1, c2, c3, c4, c5, c6, rfl, h, hb⟩ := h
  exact ⟨_, rfl, ⟨c0, c1, c2, c3, c4, c5, c6, rfl, RepM.on (fun k hk => ⟨by omega, hk.2⟩) (fun _ _ => rfl) y h⟩, hb⟩
theorem row2_new {B : Nat} {y z : Tm} {w : World} {c0 c1 c2 c3 c4 c5 c6 d0 d1 d2 d3 d4 d5 d6 : Value} (hB : B ≤ w.heap.size) (h1 : RepM (fun b => B ≤ b ∧ b < w.heap.size) w y c0 c1 c2 c3 c4 c5 c6) (h2 : RepM (fun b => B ≤ b ∧ b < w.heap.size) w z d0 d1 d2 d3 d4 d5 d6) :
    RowAt B [y, z] (w.alloc (.cells #[c0, c1, c2, c3, c4, c5, c6, d0, d1, d2, d3, d4, d5, d6] 48)) (.slice (some ⟨w.heap.size, 0, none⟩) 2 2) := by
  refine ⟨_, _, _, rfl, slg_row (alloc_new' w _) ⟨hB, by simp⟩ rfl (by simp) (fun i h => match i, h with
    | 0, _ => RepM.on (fun k hk => ⟨hk.1, by simp; omega⟩) (fun k hk => Below.heap_alloc _ _ _ hk.2) _ h1
    | 1, _ => RepM.on (fun k hk => ⟨hk.1, by simp; omega⟩) (fun k hk => Below.heap_alloc _ _ _ hk.2) _ h2)⟩
theorem deep_two {l : List Tm} (h : ¬ l.length < 2) : ∃ y z m, l = y :: z :: m := by
  match l, h with
  | [], h => simp at h
  | [_], h => simp at h
  | y :: z :: m, _ => exact ⟨y, z, m, rfl⟩

end Go.Proofs.Ytkaiihoijcpldaa
