/-
  Layer 6's raw literals that came in: rows of them, rows of rows.
-/
import Derived.Test.YtkaiihoijcpldaaW17
import Derived.Test.YtkaiihoijcpldaaW01
import Derived.Laws.IdiomArrays
namespace Go.Proofs.Ytkaiihoijcpldaa
open Go.ChangeShapes Go.WideShapes Go.ChangeAt Go.RowKit Go.Deep Go.Joins

theorem cellsRw : Try.prog.cellsOf 60 = 6 := by kernel_rfl
theorem bytesRw : Try.prog.bytesOf 60 = 48 := by kernel_rfl
theorem cellsRws : Try.prog.cellsOf 23 = 1 := by kernel_rfl
theorem bytesRws : Try.prog.bytesOf 23 = 24 := by kernel_rfl
theorem cellsN4 : Try.prog.cellsOf 58 = 4 := by kernel_rfl

section
variable {H : Type} {enc : TypeId × Value → H} {W : World}
set_option maxRecDepth 100000 in
theorem rw_of_trod (d : DataW H) (fuel : Nat) (cs : List Value) (ps : List MemPlace) (h : DataW.trod enc Try.prog W 0 (fun _ => true) true fuel 60 cs = some (d, ps)) :
    ∃ (x : Rw) (c : Nat → Value), (∀ j, j < 6 → cs[j]? = some (c j)) ∧ RepRw (fun k => k < W.heap.size) W x c := by
  obtain ⟨y0, y1, y2, n, hx, hlen, h0, h1, h2⟩ := trod_struct3 Try.underlying60 h
  rw [cellsRw] at hlen
  match cs, hlen with
  | [c0, c1, c2, c3, c4, c5], _ =>
    simp [cellsInt] at h0
    simp [cellsInt] at h1
    simp [cellsN4] at h2
    obtain ⟨k, e0, r0, w0⟩ := DataW.trod_int Try.underlying3 h0
    obtain ⟨s, e1, r1, w1⟩ := DataW.trod_int Try.underlying3 h1
    obtain ⟨z0, z1, z2, z3, n', hx', q0, q1, q2, q3⟩ := trod_array4 Try.underlying58 cellsInt h2
    obtain ⟨n0, f0, r2, w2⟩ := DataW.trod_int Try.underlying3 q0
    obtain ⟨n1, f1, r3, w3⟩ := DataW.trod_int Try.underlying3 q1
    obtain ⟨n2, f2, r4, w4⟩ := DataW.trod_int Try.underlying3 q2
    obtain ⟨n3, f3, r5, w5⟩ := DataW.trod_int Try.underlying3 q3
    simp at e0 e1 f0 f1 f2 f3
    subst e0 e1 f0 f1 f2 f3
    exact ⟨⟨k, s, n0, n1, n2, n3⟩, at7o (.int .i64 k) (.int .i64 s) (.int .i64 n0) (.int .i64 n1) (.int .i64 n2) (.int .i64 n3) (.int .i64 n3), fun j hj => match j, hj with
      | 0, _ => rfl | 1, _ => rfl | 2, _ => rfl | 3, _ => rfl | 4, _ => rfl | 5, _ => rfl, rfl, rfl, rfl, rfl, rfl, rfl, i64_wf w0, i64_wf w1, i64_wf w2, i64_wf w3, i64_wf w4, i64_wf w5⟩
theorem rws_of_trod (d : DataW H) (fuel : Nat) (v : Value) (ps : List MemPlace) (h : DataW.trod enc Try.prog W 0 (fun _ => true) true fuel 23 [v] = some (d, ps)) (hf : Fits Try.prog 23 d) :
    ∃ l, RepRws (fun k => k < W.heap.size) W l v := by
  obtain ⟨l, hl, -⟩ := slg_of_trod (RepRw (fun k => k < W.heap.size) W) ⟨0, 0, 0, 0, 0, 0⟩ Try.underlying23 cellsRw bytesRw (by omega) d fuel v ps h hf
    (fun d' fuel' cs' ps' _ h' _ => rw_of_trod d' fuel' cs' ps' h')
  exact ⟨l, hl⟩
set_option maxRecDepth 100000 in
theorem open_rws {base : Nat} {v : Value} {d : DataW H} {p : List MemPlace} (hv : Value.okWide Try.prog W .any base 23 v) (h : DataW.Trod enc Try.prog W 0 (fun _ => true) true 23 v d p) (hf : Fits Try.prog 23 d) :
    ∃ l, RepRws (fun k => k < W.heap.size) W l v := by
  obtain ⟨a0, len, cap, rfl⟩ := okWide_slice Try.underlying23 hv
  obtain ⟨fuel, hf'⟩ := h
  exact rws_of_trod d fuel _ p (by simpa [Value.cells] using hf') hf
set_option maxRecDepth 100000 in
theorem open_rwss {base : Nat} {v : Value} {d : DataW H} {p : List MemPlace} (hv : Value.okWide Try.prog W .any base 22 v) (h : DataW.Trod enc Try.prog W 0 (fun _ => true) true 22 v d p) (hf : Fits Try.prog 22 d) :
    ∃ l, RepRwss (fun k => k < W.heap.size) W l v := by
  obtain ⟨a0, len, cap, rfl⟩ := okWide_slice Try.underlying22 hv
  obtain ⟨fuel, hf'⟩ := h
  obtain ⟨l, hl, -⟩ := slg_of_trod (fun x c => RepRws (fun k => k < W.heap.size) W x (c 0)) [] Try.underlying22 cellsRws bytesRws (by omega) d fuel _ p (by simpa [Value.cells] using hf') hf
    (fun d' fuel' cs' ps' hs h' hf'' => by
      have hlen : cs'.length = 1 := by
        rcases open_slice Try.underlying23 h' with ⟨hcs, -⟩ | ⟨a, len, cap, mm, nf, D, Pl, hcs, -⟩ <;> rw [hcs] <;> rfl
      match cs', hlen with
      | [c], _ =>
        obtain ⟨l, hl⟩ := rws_of_trod d' fuel' c ps' h' hf''
        exact ⟨l, fun _ => c, fun j hj => match j, hj with
          | 0, _ => rfl, hl⟩)
  exact ⟨l, hl⟩
end
end Go.Proofs.Ytkaiihoijcpldaa
