/-
  For ScopeNames: a rule's variable is no block of what terms lie in; a rule stored whole; rows beside it.
-/
import Derived.Test.YtkaiihoijcpldaaSixTurn
import Derived.Test.YtkaiihoijcpldaaW04
namespace Go.Proofs.Ytkaiihoijcpldaa
open Go.RowKit

/-- No value's row, and no term's, can begin in block X. -/
def NoRowR (w : World) (X : Nat) : Prop := (∀ o n m, w.cell? ⟨X, o, none⟩ = some (.int .i64 n) → w.cell? ⟨X, o + 1, none⟩ = some (.int .i64 m) → False) ∧ (∀ o n s, w.cell? ⟨X, o, none⟩ = some (.int .i64 n) → w.cell? ⟨X, o + 1, none⟩ = some (.string s) → False)
section
variable {S : Nat → Prop} {w : World} {X : Nat}
theorem RepG.offR (hX : NoRowR w X) : ∀ (x : V) {c0 c1 c2 c3 : Value}, RepG S w x c0 c1 c2 c3 → RepG (fun k => S k ∧ k ≠ X) w x c0 c1 c2 c3
  | .mk k n s l, c0, c1, c2, c3, h => by
    rw [repG_mk] at h ⊢
    obtain ⟨h0, h1, h2, h3, h4, h5, a, b, o, cap, e, h6, h7, h8, h9, h10⟩ := h
    refine ⟨h0, h1, h2, h3, h4, h5, a, b, o, cap, e, h6, h7, h8, fun hl => ⟨h9 hl, fun eb => ?_⟩, fun i hi => ?_⟩
    · obtain ⟨x0, x1, x2, x3, g0, g1, g2, g3, g⟩ := h10 0 hl
      obtain ⟨_, _, rfl, rfl, rfl, rfl⟩ := g.form
      subst eb
      exact hX.1 _ _ _ g0 g1
    · obtain ⟨x0, x1, x2, x3, g0, g1, g2, g3, g⟩ := h10 i hi
      exact ⟨x0, x1, x2, x3, g0, g1, g2, g3, RepG.offR hX l[i] g⟩
  termination_by x => SizeOf.sizeOf x
  decreasing_by
    have := List.sizeOf_lt_of_mem (List.getElem_mem hi)
    simp only [V.mk.sizeOf_spec]
    omega
theorem RepM.offR (hX : NoRowR w X) : ∀ (x : Tm) {c0 c1 c2 c3 c4 c5 c6 : Value}, RepM S w x c0 c1 c2 c3 c4 c5 c6 → RepM (fun k => S k ∧ k ≠ X) w x c0 c1 c2 c3 c4 c5 c6
  | .mk k s x l, c0, c1, c2, c3, c4, c5, c6, h => by
    rw [repM_mk] at h ⊢
    obtain ⟨h0, h1, h2, h3, h4, a, b, o, cap, e, h6, h7, h8, h9, h10⟩ := h
    refine ⟨h0, h1, h2, h3, RepG.offR hX x h4, a, b, o, cap, e, h6, h7, h8, fun hl => ⟨h9 hl, fun eb => ?_⟩, fun i hi => ?_⟩
    · obtain ⟨c, hc, hr⟩ := h10 0 hl
      obtain ⟨_, _, _, _, e0, e1, -⟩ := hr.form
      subst eb
      exact hX.2 _ _ _ ((hc 0 (by omega)).trans (by rw [e0])) ((hc 1 (by omega)).trans (by rw [e1]))
    · obtain ⟨c, hc, hr⟩ := h10 i hi
      exact ⟨c, hc, RepM.offR hX l[i] hr⟩
  termination_by x => SizeOf.sizeOf x
  decreasing_by
    have := List.sizeOf_lt_of_mem (List.getElem_mem hi)
    simp only [Tm.mk.sizeOf_spec]
    omega
theorem RepMs.offR (hX : NoRowR w X) {l : List Tm} {v : Value} (h : RepMs S w l v) : RepMs (fun k => S k ∧ k ≠ X) w l v := by
  obtain ⟨a, b, o, cap, e, h6, h7, h8, h9, h10⟩ := h
  refine ⟨a, b, o, cap, e, h6, h7, h8, fun hl => ⟨h9 hl, fun eb => ?_⟩, fun i hi => ?_⟩
  · obtain ⟨c, hc, hr⟩ := h10 0 hl
    obtain ⟨_, _, _, _, e0, e1, -⟩ := hr.form
    subst eb
    exact hX.2 _ _ _ ((hc 0 (by omega)).trans (by rw [e0])) ((hc 1 (by omega)).trans (by rw [e1]))
  · obtain ⟨c, hc, hr⟩ := h10 i hi
    exact ⟨c, hc, RepM.offR hX l[i] hr⟩
theorem noRowR_ru {s0 s1 s3 : ByteArray} {a2 a5 : Option Addr} {n2 c2 n5 c5 : Nat} {i4 : Int} (h : BoxRu w X (.string s0) (.string s1) (.slice a2 n2 c2) (.string s3) (.int .i64 i4) (.slice a5 n5 c5)) : NoRowR w X := by
  obtain ⟨k0, k1, k2, k3, k4, k5⟩ := h.cells
  have hout : ∀ o, 6 ≤ o → ∀ v, w.cell? ⟨X, o, none⟩ = some v → False := fun o ho v e => by
    have hb : w.heap[X]? = some _ := h
    have hn : (#[.string s0, .string s1, .slice a2 n2 c2, .string s3, .int .i64 i4, .slice a5 n5 c5] : Array Value)[o]? = none := Array.getElem?_eq_none (by simp; omega)
    have e2 : w.cell? ⟨X, o, none⟩ = none := by simp only [World.cell?, hb]; first | exact hn | (rw [hn]; rfl) | simp [hn]
    rw [e2] at e; cases e
  refine ⟨fun o n m h1 h2 => ?_, fun o n s h1 h2 => ?_⟩ <;>
  · match o with
    | 0 => rw [k0] at h1; cases h1
    | 1 => rw [k1] at h1; cases h1
    | 2 => rw [k2] at h1; cases h1
    | 3 => rw [k3] at h1; cases h1
    | 4 => rw [k5] at h2; cases h2
    | 5 => rw [k5] at h1; cases h1
    | o + 6 => exact hout (o + 6) (by omega) _ h1
end
def st6 (w : World) (g : Nat) (c0 c1 c2 c3 c4 c5 : Value) : World := (((((w.setCell ⟨g, 0, none⟩ c0).setCell ⟨g, 1, none⟩ c1).setCell ⟨g, 2, none⟩ c2).setCell ⟨g, 3, none⟩ c3).setCell ⟨g, 4, none⟩ c4).setCell ⟨g, 5, none⟩ c5
theorem st6_size (w : World) (g : Nat) (c0 c1 c2 c3 c4 c5 : Value) : (st6 w g c0 c1 c2 c3 c4 c5).heap.size = w.heap.size := by simp [st6, World.setCell]
theorem st6_other (w : World) (g : Nat) (c0 c1 c2 c3 c4 c5 : Value) (k : Nat) (h : k ≠ g) : (st6 w g c0 c1 c2 c3 c4 c5).heap[k]? = w.heap[k]? := by
  unfold st6
  rw [Below.heap_setCell _ _ _ _ h, Below.heap_setCell _ _ _ _ h, Below.heap_setCell _ _ _ _ h, Below.heap_setCell _ _ _ _ h, Below.heap_setCell _ _ _ _ h, Below.heap_setCell _ _ _ _ h]
theorem st6_below {w0 w : World} {B g : Nat} (h : Below B w0 w) (hb : B ≤ g) (c0 c1 c2 c3 c4 c5 : Value) : Below B w0 (st6 w g c0 c1 c2 c3 c4 c5) :=
  (((((h.setCell (p := ⟨g, 0, none⟩) hb c0).setCell (p := ⟨g, 1, none⟩) hb c1).setCell (p := ⟨g, 2, none⟩) hb c2).setCell (p := ⟨g, 3, none⟩) hb c3).setCell (p := ⟨g, 4, none⟩) hb c4).setCell (p := ⟨g, 5, none⟩) hb c5
theorem st6_box {w : World} {g : Nat} {x0 x1 x2 x3 x4 x5 : Value} (h : BoxRu w g x0 x1 x2 x3 x4 x5) (c0 c1 c2 c3 c4 c5 : Value) : BoxRu (st6 w g c0 c1 c2 c3 c4 c5) g c0 c1 c2 c3 c4 c5 := by
  have h0 : BoxRu (w.setCell ⟨g, 0, none⟩ c0) g c0 x1 x2 x3 x4 x5 := heap_setCell_same _ _ _ _ _ _ h
  have h1 : BoxRu ((w.setCell ⟨g, 0, none⟩ c0).setCell ⟨g, 1, none⟩ c1) g c0 c1 x2 x3 x4 x5 := heap_setCell_same _ _ _ _ _ _ h0
  have h2 : BoxRu (((w.setCell ⟨g, 0, none⟩ c0).setCell ⟨g, 1, none⟩ c1).setCell ⟨g, 2, none⟩ c2) g c0 c1 c2 x3 x4 x5 := heap_setCell_same _ _ _ _ _ _ h1
  have h3 : BoxRu ((((w.setCell ⟨g, 0, none⟩ c0).setCell ⟨g, 1, none⟩ c1).setCell ⟨g, 2, none⟩ c2).setCell ⟨g, 3, none⟩ c3) g c0 c1 c2 c3 x4 x5 := heap_setCell_same _ _ _ _ _ _ h2
  have h4 : BoxRu (((((w.setCell ⟨g, 0, none⟩ c0).setCell ⟨g, 1, none⟩ c1).setCell ⟨g, 2, none⟩ c2).setCell ⟨g, 3, none⟩ c3).setCell ⟨g, 4, none⟩ c4) g c0 c1 c2 c3 c4 x5 := heap_setCell_same _ _ _ _ _ _ h3
  exact heap_setCell_same _ _ _ _ _ _ h4
theorem MineS.far {α : Type} {K : Kd α} {S : Nat → Prop} {w : World} {B : Nat} {l : List α} {v : Value} (h : MineS K S w B l v) {p : Addr} (hp : p.block < B) (hS : ¬ S p.block) (c : Value) : MineS K S (w.setCell p c) B l v :=
  OwnK.on h (fun k hk => ⟨hk.1, by simpa [World.setCell] using hk.2.1, hk.2.2⟩) (fun k hk => Below.heap_setCell _ _ _ _ (fun e => by
    rcases hk.1 with h1 | h1
    · rw [e] at h1; exact hS h1
    · omega)) (fun k h1 _ _ => Below.heap_setCell _ _ _ _ (by omega))

end Go.Proofs.Ytkaiihoijcpldaa
