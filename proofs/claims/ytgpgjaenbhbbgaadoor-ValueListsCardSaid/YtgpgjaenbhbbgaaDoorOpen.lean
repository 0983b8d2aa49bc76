/-
  What an api.Value, or a slice of them, that came in reads as: a tree of values in memory.
-/
import Derived.Test.YtgpgjaenbhbbgaaDoorBase
import Derived.Test.YtgpgjaenbhbbgaaDoorShelf
import Derived.ProofKit
import Derived.Lib.SmallJoins
import Derived.Deep.Slices
import Derived.OpenShut
namespace Go.Proofs.YtgpgjaenbhbbgaaDoor
open Go.ChangeShapes Go.WideShapes Go.ChangeAt Go.RowKit Go.Deep Go.Joins

theorem cellsValue : Tryd.prog.cellsOf 24 = 4 := by kernel_rfl
theorem bytesValue : Tryd.prog.bytesOf 24 = 56 := by kernel_rfl
theorem cellsInt : Tryd.prog.cellsOf 3 = 1 := by kernel_rfl
theorem cellsString : Tryd.prog.cellsOf 9 = 1 := by kernel_rfl
theorem cellsValues : Tryd.prog.cellsOf 22 = 1 := by kernel_rfl

theorem i64_wf {n : Int} (h : (Lit.int .i64 n).wf = true) : I64 n := bounds_i64 h

section
variable {H : Type} {enc : TypeId × Value → H} {W : World}

theorem weightsAll_mem {P : Program} {e : TypeId} {ds : List (DataW H)} {d : DataW H} (h : d ∈ ds) (n : Nat) (hn : n ∈ d.weights P e) : n ∈ DataW.weightsAll P e ds := by
  induction ds with
  | nil => cases h
  | cons x r ih =>
    rw [DataW.weightsAll, List.mem_append]
    rcases List.mem_cons.1 h with rfl | h
    · exact Or.inl hn
    · exact Or.inr (ih h)

def Fits (P : Program) (t : TypeId) (d : DataW H) : Prop := ∀ n ∈ d.weights P t, n ≤ reachBytes

theorem fits_value {a b c e : DataW H} (h : Fits Tryd.prog 24 (.agg [a, b, c, e])) : Fits Tryd.prog 22 e := fun n hn => h n (by
  simp only [DataW.weights, Tryd.underlying24, List.map_cons, List.map_nil, DataW.weightsEach, List.mem_append]
  exact Or.inr (Or.inr (Or.inr (Or.inl hn))))
theorem fits_values {elems spare : List (DataW H)} (h : Fits Tryd.prog 22 (.slice elems spare)) : (elems.length + spare.length) * 56 ≤ 140737488351232 ∧ ∀ d ∈ elems, Fits Tryd.prog 24 d := by
  simp only [Fits, DataW.weights, Tryd.underlying22, bytesValue] at h
  refine ⟨h _ (List.mem_cons_self), fun d hd n hn => h n (List.mem_cons_of_mem _ (List.mem_append_left _ (weightsAll_mem hd n hn)))⟩

theorem cell_lt {w : World} {a : Addr} {v : Value} (h : w.cell? a = some v) : a.block < w.heap.size := by
  by_cases hlt : a.block < w.heap.size
  · exact hlt
  · have hn : w.heap[a.block]? = none := by simp; omega
    simp [World.cell?, hn] at h

theorem cells4 {w : World} {a : Addr} {cs : List Value} (h : w.cells? 0 a 4 = some cs) : ∃ c0 c1 c2 c3, cs = [c0, c1, c2, c3] ∧ a.spot = none ∧ w.cell? ⟨a.block, a.off, none⟩ = some c0 ∧ w.cell? ⟨a.block, a.off + 1, none⟩ = some c1 ∧ w.cell? ⟨a.block, a.off + 2, none⟩ = some c2 ∧ w.cell? ⟨a.block, a.off + 3, none⟩ = some c3 := by
  obtain ⟨_, hlen, hcell⟩ := World.cells?_some h
  obtain ⟨b, o, sp⟩ := a
  match cs, hlen with
  | [c0, c1, c2, c3], _ =>
    have hsp : sp = none := by simpa [Addr.add] using World.cell?_spot (hcell 0 (by omega))
    subst hsp
    exact ⟨c0, c1, c2, c3, rfl, rfl, by simpa [Addr.add] using hcell 0 (by omega), by simpa [Addr.add] using hcell 1 (by omega), by simpa [Addr.add] using hcell 2 (by omega), by simpa [Addr.add] using hcell 3 (by omega)⟩

theorem add_block (a : Addr) (n : Nat) : (a.add n).block = a.block := by unfold Addr.add; split <;> simp_all
theorem add_off (a : Addr) (n : Nat) : (a.add n).off = a.off + n := by unfold Addr.add; split <;> simp_all

theorem sizeOf_mem {D : Nat → DataW H} {len i : Nat} (h : i < len) {sp : List (DataW H)} : SizeOf.sizeOf (D i) < SizeOf.sizeOf (DataW.slice ((List.range len).map D) sp) := by
  have := List.sizeOf_lt_of_mem (List.mem_map_of_mem (f := D) (List.mem_range.2 h))
  simp only [DataW.slice.sizeOf_spec]
  omega

set_option maxRecDepth 100000 in
mutual
theorem rep_of_trod (d : DataW H) (fuel : Nat) (cs : List Value) (ps : List MemPlace) (h : DataW.trod enc Tryd.prog W 0 (fun _ => true) true fuel 24 cs = some (d, ps)) (hf : Fits Tryd.prog 24 d) :
    ∃ x c0 c1 c2 c3, cs = [c0, c1, c2, c3] ∧ RepV W.heap.size W x c0 c1 c2 c3 := by
  obtain ⟨y0, y1, y2, y3, n, hx, hlen, h0, h1, h2, h3⟩ := trod_struct4 Tryd.underlying24 h
  rw [cellsValue] at hlen
  match cs, hlen with
  | [c0, c1, c2, c3], _ =>
    simp only [Prod.mk.injEq] at hx
    simp [cellsInt] at h0 h1
    simp [cellsString] at h2
    simp [cellsValues] at h3
    obtain ⟨k, e0, r0, w0⟩ := DataW.trod_int Tryd.underlying3 h0
    obtain ⟨m, e1, r1, w1⟩ := DataW.trod_int Tryd.underlying3 h1
    obtain ⟨s, e2, r2, w2⟩ := DataW.trod_string Tryd.underlying9 h2
    simp at e0 e1 e2
    subst e0 e1 e2
    have hd : d = .agg [y0.1, y1.1, y2.1, y3.1] := by simpa using hx.1
    have hsz : SizeOf.sizeOf y3.1 < SizeOf.sizeOf d := by rw [hd]; simp; omega
    subst hd
    obtain ⟨l, hl, -⟩ := repL_of_trod y3.1 n c3 y3.2 h3 (fits_value hf)
    exact ⟨.mk k m s l, _, _, _, _, rfl, repV_mk.2 ⟨rfl, rfl, rfl, i64_wf w0, i64_wf w1, w2, hl⟩⟩
  termination_by SizeOf.sizeOf d
theorem repL_of_trod (d : DataW H) (fuel : Nat) (v : Value) (ps : List MemPlace) (h : DataW.trod enc Tryd.prog W 0 (fun _ => true) true fuel 22 [v] = some (d, ps)) (hf : Fits Tryd.prog 22 d) :
    ∃ l, RepL W.heap.size W l v ∧ l.length * 56 ≤ 140737488351232 := by
  rcases open_slice Tryd.underlying22 h with ⟨hc, hx⟩ | ⟨a, len, cap, mm, n, D, Pl, hc, _, hl, hm, hmm, hx, hall⟩
  · simp only [List.cons.injEq, and_true] at hc
    subst hc
    exact ⟨[], ⟨none, 0, 0, 0, rfl, Nat.le_refl _, by simp, fun h => by omega, fun h => by simp at h, fun i hi => by simp at hi⟩, by simp⟩
  · simp only [List.cons.injEq, and_true] at hc
    subst hc
    simp only [if_true] at hmm
    subst hmm
    simp only [Prod.mk.injEq] at hx
    obtain ⟨hd, _⟩ := hx
    rw [cellsValue] at hall
    have hfv := hf
    rw [hd] at hfv
    obtain ⟨hcap, hfe⟩ := fits_values hfv
    have hcap' : mm * 56 ≤ 140737488351232 := by
      simp only [List.length_map, List.length_range] at hcap
      have : len + (mm - len) = mm := by omega
      rw [this] at hcap
      exact hcap
    have hsz : ∀ i, i < len → SizeOf.sizeOf (D i) < SizeOf.sizeOf d := fun i hi => by rw [hd]; exact sizeOf_mem hi
    have key : ∀ i : Nat, ∃ x : V, i < len → ∃ c0 c1 c2 c3, W.cell? ⟨a.block, a.off + i * 4, none⟩ = some c0 ∧ W.cell? ⟨a.block, a.off + i * 4 + 1, none⟩ = some c1 ∧ W.cell? ⟨a.block, a.off + i * 4 + 2, none⟩ = some c2 ∧ W.cell? ⟨a.block, a.off + i * 4 + 3, none⟩ = some c3 ∧ RepV W.heap.size W x c0 c1 c2 c3 := by
      intro i
      by_cases hi : i < len
      · obtain ⟨cs', g1, g2⟩ := hall i (by omega)
        have := hsz i hi
        obtain ⟨x, c0, c1, c2, c3, rfl, hr⟩ := rep_of_trod (D i) n cs' (Pl i) g2 (hfe _ (List.mem_map_of_mem (List.mem_range.2 hi)))
        obtain ⟨d0, d1, d2, d3, he, hsp, q0, q1, q2, q3⟩ := cells4 g1
        simp only [List.cons.injEq, and_true] at he
        obtain ⟨rfl, rfl, rfl, rfl⟩ := he
        rw [add_block, add_off] at q0 q1 q2 q3
        exact ⟨x, fun _ => ⟨_, _, _, _, q0, q1, q2, q3, hr⟩⟩
      · exact ⟨.mk 0 0 ⟨#[]⟩ [], fun h => absurd h hi⟩
    obtain ⟨X, hX⟩ := Classical.axiomOfChoice key
    have hspot : 0 < mm → a.spot = none := fun h0 => by
      obtain ⟨cs', g1, g2⟩ := hall 0 h0
      obtain ⟨d0, d1, d2, d3, he, hsp, _⟩ := cells4 g1
      simpa [Addr.add] using hsp
    refine ⟨(List.range len).map X, ⟨some a, a.block, a.off, mm, by simp, by simpa using hl, by simp; omega, fun h0 => ?_, fun h0 => ?_, fun i hi => ?_⟩, by simp; omega⟩
    · have := hspot h0
      obtain ⟨b, o, sp⟩ := a
      simp at this
      subst this
      rfl
    · simp at h0
      obtain ⟨c0, _, _, _, q, _⟩ := hX 0 (by omega)
      exact cell_lt (a := ⟨a.block, _, none⟩) q
    · have hi' : i < len := by simpa using hi
      obtain ⟨c0, c1, c2, c3, q0, q1, q2, q3, hr⟩ := hX i hi'
      exact ⟨c0, c1, c2, c3, q0, q1, q2, q3, by rw [List.getElem_map, List.getElem_range]; exact hr⟩
  termination_by SizeOf.sizeOf d
end

end
end Go.Proofs.YtgpgjaenbhbbgaaDoor
