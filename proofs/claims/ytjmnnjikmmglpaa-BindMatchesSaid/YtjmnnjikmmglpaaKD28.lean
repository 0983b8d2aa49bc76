/-
  Open, LawPost, OpenTm, OpenNine, CardBMatches
-/
import Derived.Test.YtjmnnjikmmglpaaKD01
import Derived.Test.YtjmnnjikmmglpaaRows
import Derived.Test.YtjmnnjikmmglpaaKD10
import Derived.Test.YtjmnnjikmmglpaaKD27
import Derived.ProofKit
import Derived.Lib.SmallJoins
import Derived.Deep.Slices
import Derived.OpenShut
import Derived.Deep.DeepHandedRow
import Derived.Deep.Strs
namespace Go.Proofs.Ytjmnnjikmmglpaa
open Go.ChangeShapes Go.WideShapes Go.ChangeAt Go.RowKit Go.Deep Go.Joins
theorem cellsValue : Try.prog.cellsOf 28 = 4 := by kernel_rfl
theorem bytesValue : Try.prog.bytesOf 28 = 56 := by kernel_rfl
theorem cellsInt : Try.prog.cellsOf 3 = 1 := by kernel_rfl
theorem cellsString : Try.prog.cellsOf 9 = 1 := by kernel_rfl
theorem cellsValues : Try.prog.cellsOf 23 = 1 := by kernel_rfl
theorem i64_wf {n : Int} (h : (Lit.int .i64 n).wf = true) : I64 n := bounds_i64 h
section
variable {H : Type} {enc : TypeId × Value → H} {W : World}
theorem weightsAll_mem {P : Program} {e : TypeId} {ds : List (DataW H)} {d : DataW H} (h : d ∈ ds) (n : Nat) (hn : n ∈ d.weights P e) : n ∈ DataW.weightsAll P e ds := by
 induction ds with
 | nil => cases h
 | cons x r ih =>
  rw [DataW.weightsAll, List.mem_append];rcases List.mem_cons.1 h with rfl | h
  ·exact Or.inl hn
  ·exact Or.inr (ih h)
def Fits (P : Program) (t : TypeId) (d : DataW H) : Prop := ∀ n ∈ d.weights P t, n ≤ reachBytes
theorem fits_value {a b c e : DataW H} (h : Fits Try.prog 28 (.agg [a, b, c, e])) : Fits Try.prog 23 e := fun n hn => h n (by
 simp only [DataW.weights, Try.underlying28, List.map_cons, List.map_nil, DataW.weightsEach, List.mem_append]
 exact Or.inr (Or.inr (Or.inr (Or.inl hn))))
theorem fits_values {elems spare : List (DataW H)} (h : Fits Try.prog 23 (.slice elems spare)) : (elems.length + spare.length) * 56 ≤ 140737488351232 ∧ ∀ d ∈ elems, Fits Try.prog 28 d := by
 simp only [Fits, DataW.weights, Try.underlying23, bytesValue] at h
 refine ⟨h _ (List.mem_cons_self), fun d hd n hn => h n (List.mem_cons_of_mem _ (List.mem_append_left _ (weightsAll_mem hd n hn)))⟩
theorem cell_lt {w : World} {a : Addr} {v : Value} (h : w.cell? a = some v) : a.block < w.heap.size := by
 by_cases hlt : a.block < w.heap.size
 ·exact hlt
 ·have hn : w.heap[a.block]? = none := by simp; omega
  simp [World.cell?, hn] at h
theorem cells4 {w : World} {a : Addr} {cs : List Value} (h : w.cells? 0 a 4 = some cs) : ∃ c0 c1 c2 c3, cs = [c0, c1, c2, c3] ∧ a.spot = none ∧ w.cell? ⟨a.block, a.off, none⟩ = some c0 ∧ w.cell? ⟨a.block, a.off + 1, none⟩ = some c1 ∧ w.cell? ⟨a.block, a.off + 2, none⟩ = some c2 ∧ w.cell? ⟨a.block, a.off + 3, none⟩ = some c3 := by
 obtain ⟨_, hlen, hcell⟩ := World.cells?_some h;obtain ⟨b, o, sp⟩ := a
 match cs, hlen with
 | [c0, c1, c2, c3], _ =>
  have hsp : sp = none := by simpa [Addr.add] using World.cell?_spot (hcell 0 (by omega))
  subst hsp;exact ⟨c0, c1, c2, c3, rfl, rfl, by simpa [Addr.add] using hcell 0 (by omega), by simpa [Addr.add] using hcell 1 (by omega), by simpa [Addr.add] using hcell 2 (by omega), by simpa [Addr.add] using hcell 3 (by omega)⟩
theorem add_block (a : Addr) (n : Nat) : (a.add n).block = a.block := by unfold Addr.add; split <;> simp_all
theorem add_off (a : Addr) (n : Nat) : (a.add n).off = a.off + n := by unfold Addr.add; split <;> simp_all
theorem sizeOf_mem {D : Nat → DataW H} {len i : Nat} (h : i < len) {sp : List (DataW H)} : SizeOf.sizeOf (D i) < SizeOf.sizeOf (DataW.slice ((List.range len).map D) sp) := by
 have := List.sizeOf_lt_of_mem (List.mem_map_of_mem (f := D) (List.mem_range.2 h));simp only [DataW.slice.sizeOf_spec]
 omega
set_option maxRecDepth 100000 in
mutual
theorem rep_of_trod (d : DataW H) (fuel : Nat) (cs : List Value) (ps : List MemPlace) (h : DataW.trod enc Try.prog W 0 (fun _ => true) true fuel 28 cs = some (d, ps)) (hf : Fits Try.prog 28 d) :
  ∃ x c0 c1 c2 c3, cs = [c0, c1, c2, c3] ∧ RepV W.heap.size W x c0 c1 c2 c3 := by
 obtain ⟨y0, y1, y2, y3, n, hx, hlen, h0, h1, h2, h3⟩ := trod_struct4 Try.underlying28 h;rw [cellsValue] at hlen
 match cs, hlen with
 | [c0, c1, c2, c3], _ =>
  simp only [Prod.mk.injEq] at hx
  simp [cellsInt] at h0 h1
  simp [cellsString] at h2
  simp [cellsValues] at h3
  obtain ⟨k, e0, r0, w0⟩ := DataW.trod_int Try.underlying3 h0;obtain ⟨m, e1, r1, w1⟩ := DataW.trod_int Try.underlying3 h1;obtain ⟨s, e2, r2, w2⟩ := DataW.trod_string Try.underlying9 h2;simp at e0 e1 e2
  subst e0 e1 e2;have hd : d = .agg [y0.1, y1.1, y2.1, y3.1] := by simpa using hx.1
  have hsz : SizeOf.sizeOf y3.1 < SizeOf.sizeOf d := by rw [hd]; simp; omega
  subst hd;obtain ⟨l, hl, -⟩ := repL_of_trod y3.1 n c3 y3.2 h3 (fits_value hf);exact ⟨.mk k m s l, _, _, _, _, rfl, repV_mk.2 ⟨rfl, rfl, rfl, i64_wf w0, i64_wf w1, w2, hl⟩⟩
 termination_by SizeOf.sizeOf d
theorem repL_of_trod (d : DataW H) (fuel : Nat) (v : Value) (ps : List MemPlace) (h : DataW.trod enc Try.prog W 0 (fun _ => true) true fuel 23 [v] = some (d, ps)) (hf : Fits Try.prog 23 d) :
  ∃ l, RepL W.heap.size W l v ∧ l.length * 56 ≤ 140737488351232 := by
 rcases open_slice Try.underlying23 h with ⟨hc, hx⟩ | ⟨a, len, cap, mm, n, D, Pl, hc, _, hl, hm, hmm, hx, hall⟩
 ·simp only [List.cons.injEq, and_true] at hc
  subst hc;exact ⟨[], ⟨none, 0, 0, 0, rfl, Nat.le_refl _, by simp, fun h => by omega, fun h => by simp at h, fun i hi => by simp at hi⟩, by simp⟩
 ·simp only [List.cons.injEq, and_true] at hc
  subst hc;simp only [if_true] at hmm
  subst hmm;simp only [Prod.mk.injEq] at hx
  obtain ⟨hd, _⟩ := hx;rw [cellsValue] at hall;have hfv := hf;rw [hd] at hfv;obtain ⟨hcap, hfe⟩ := fits_values hfv
  have hcap' : mm * 56 ≤ 140737488351232 := by
   simp only [List.length_map, List.length_range] at hcap
   have : len + (mm - len) = mm := by omega
   rw [this] at hcap;exact hcap
  have hsz : ∀ i, i < len → SizeOf.sizeOf (D i) < SizeOf.sizeOf d := fun i hi => by rw [hd]; exact sizeOf_mem hi
  have key : ∀ i : Nat, ∃ x : V, i < len → ∃ c0 c1 c2 c3, W.cell? ⟨a.block, a.off + i * 4, none⟩ = some c0 ∧ W.cell? ⟨a.block, a.off + i * 4 + 1, none⟩ = some c1 ∧ W.cell? ⟨a.block, a.off + i * 4 + 2, none⟩ = some c2 ∧ W.cell? ⟨a.block, a.off + i * 4 + 3, none⟩ = some c3 ∧ RepV W.heap.size W x c0 c1 c2 c3 := by
   intro i
   by_cases hi : i < len
   ·obtain ⟨cs', g1, g2⟩ := hall i (by omega)
    have := hsz i hi;obtain ⟨x, c0, c1, c2, c3, rfl, hr⟩ := rep_of_trod (D i) n cs' (Pl i) g2 (hfe _ (List.mem_map_of_mem (List.mem_range.2 hi)));obtain ⟨d0, d1, d2, d3, he, hsp, q0, q1, q2, q3⟩ := cells4 g1;simp only [List.cons.injEq, and_true] at he
    obtain ⟨rfl, rfl, rfl, rfl⟩ := he;rw [add_block, add_off] at q0 q1 q2 q3;exact ⟨x, fun _ => ⟨_, _, _, _, q0, q1, q2, q3, hr⟩⟩
   ·exact ⟨.mk 0 0 ⟨#[]⟩ [], fun h => absurd h hi⟩
  obtain ⟨X, hX⟩ := Classical.axiomOfChoice key
  have hspot : 0 < mm → a.spot = none := fun h0 => by
   obtain ⟨cs', g1, g2⟩ := hall 0 h0;obtain ⟨d0, d1, d2, d3, he, hsp, _⟩ := cells4 g1
   simpa [Addr.add] using hsp
  refine ⟨(List.range len).map X, ⟨some a, a.block, a.off, mm, by simp, by simpa using hl, by simp; omega, fun h0 => ?_, fun h0 => ?_, fun i hi => ?_⟩, by simp; omega⟩
  ·have := hspot h0
   obtain ⟨b, o, sp⟩ := a;simp at this
   subst this;rfl
  ·simp at h0
   obtain ⟨c0, _, _, _, q, _⟩ := hX 0 (by omega);exact cell_lt (a := ⟨a.block, _, none⟩) q
  ·have hi' : i < len := by simpa using hi
   obtain ⟨c0, c1, c2, c3, q0, q1, q2, q3, hr⟩ := hX i hi';exact ⟨c0, c1, c2, c3, q0, q1, q2, q3, by rw [List.getElem_map, List.getElem_range]; exact hr⟩
 termination_by SizeOf.sizeOf d
end
end
end Go.Proofs.Ytjmnnjikmmglpaa
namespace Go.Proofs.Ytjmnnjikmmglpaa
open Go.ChangeShapes Go.WideShapes Go.ChangeAt Go.RowKit
theorem own : ownKnob Try.prog.godebug = none := by kernel_rfl
theorem laidOut : laidOutB Try.prog = true := by kernel_rfl
noncomputable def plainWorld (os : Os) : World := World.holding Try.prog os ⟨#[], #[], []⟩
section
variable {H : Type} {enc : TypeId × Value → H}
theorem trodAll_below {W W' : World} (hb : Below W.heap.size W W') : ∀ (ts : List TypeId) (vs : List Value) (ds : List (DataW H)) (ps : List MemPlace), DataW.TrodAll enc Try.prog W 0 (fun _ => true) true ts vs ds ps →
  (∀ t ∈ ts, Try.prog.readableRec t = true ∧ t < Try.prog.types.size) → (∀ x ∈ ps, x.block < W.heap.size) → DataW.TrodAll enc Try.prog W' 0 (fun b => decide (b < W.heap.size)) true ts vs ds ps
 | [], [], [], ps, h, _, _ => h
 | t :: ts, v :: vs, d :: ds, ps, h, ht, hp => by
  obtain ⟨p, q, h1, h2, rfl⟩ := h;obtain ⟨r1, r2⟩ := ht t (by simp);exact ⟨p, q, Below.trod laidOut r1 r2 h1 hb (fun x hx => hp x (by simp [hx])), trodAll_below hb ts vs ds q h2 (fun t' h' => ht t' (by simp [h'])) (fun x hx => hp x (by simp [hx])), rfl⟩
 | [], _ :: _, _, _, h, _, _ => by cases h
 | _ :: _, [], _, _, h, _, _ => by cases h
 | [], [], _ :: _, _, h, _, _ => by cases h
 | _ :: _, _ :: _, [], _, h, _, _ => by cases h
theorem law_post {fn : Func} {s : ChangeSpec} {W W' : World} {args : Array Value} {ds gs : List (DataW H)} {before : List MemPlace}
  (hvars : s.vars = []) (hres : fn.resultTypes = #[4]) (hread : ∀ t ∈ fn.params.toList, Try.prog.readableRec t = true ∧ t < Try.prog.types.size)
  (hW : DataW.Whole enc Try.prog fn.params.toList s.vars false W args.toList ds gs before)
  (hs : s.fn H (ds ++ gs) = { results := [.lit (.bool true)], args := ds })
  (hb : Below W.heap.size W W') : s.post enc Try.prog fn false true false false W args (.bool true) W' := by
 have hW' := hW;obtain ⟨p, q, hA, hV, rfl, hfz, hnd⟩ := hW;rw [hvars] at hV;obtain ⟨rfl, rfl⟩ := trodVars_none hV;refine ⟨ds, [], p ++ [], [], p, [], hW', ?_, ?_, ?_, hb.frame _, fun h => by cases h⟩
 ·rw [hres, hs]
  exact trodAll_cons_mk (shut_bool Try.underlying4 _) trodAll_mk0
 ·rw [hs]
  exact trodAll_below hb _ _ _ _ hA hread (fun x hx => hW'.lt x (by simp [hx]))
 ·rw [hs, hvars]
  rfl
theorem fits_cons {t : TypeId} {ts : List TypeId} {d : DataW H} {ds : List (DataW H)} (h : (DataW.weightsEach Try.prog (t :: ts) (d :: ds)).all (· ≤ reachBytes) = true) :
  Fits Try.prog t d ∧ (DataW.weightsEach Try.prog ts ds).all (· ≤ reachBytes) = true := by
 rw [DataW.weightsEach, List.all_append, Bool.and_eq_true] at h;exact ⟨fun n hn => by simpa using (List.all_eq_true.1 h.1) n hn, h.2⟩
set_option maxRecDepth 100000 in
theorem open_values {W : World} {base : Nat} {v : Value} {d : DataW H} {p : List MemPlace} (hv : Value.okWide Try.prog W .any base 23 v) (h : DataW.Trod enc Try.prog W 0 (fun _ => true) true 23 v d p) (hf : Fits Try.prog 23 d) :
  ∃ l, RepL W.heap.size W l v ∧ l.length * 56 ≤ 140737488351232 := by
 obtain ⟨a0, len, cap, rfl⟩ := okWide_slice Try.underlying23 hv;obtain ⟨fuel, hf'⟩ := h;exact repL_of_trod d fuel _ p (by simpa [Value.cells] using hf') hf
end
end Go.Proofs.Ytjmnnjikmmglpaa
namespace Go.Proofs.Ytjmnnjikmmglpaa
open Go.ChangeShapes Go.WideShapes Go.ChangeAt Go.RowKit Go.Deep Go.Joins
theorem cellsTm : Try.prog.cellsOf 30 = 7 := by kernel_rfl
theorem bytesTm : Try.prog.bytesOf 30 = 104 := by kernel_rfl
theorem cellsTms : Try.prog.cellsOf 22 = 1 := by kernel_rfl
section
variable {H : Type} {enc : TypeId × Value → H} {W : World}
theorem fits_slice {st et : TypeId} {bytes : Nat} (hu : Try.prog.underlying st = some (.slice et)) (hb : Try.prog.bytesOf et = bytes) {elems spare : List (DataW H)} (h : Fits Try.prog st (.slice elems spare)) : (elems.length + spare.length) * bytes ≤ 140737488351232 ∧ ∀ d ∈ elems, Fits Try.prog et d := by
 simp only [Fits, DataW.weights, hu, hb] at h
 refine ⟨h _ (List.mem_cons_self), fun d hd n hn => h n (List.mem_cons_of_mem _ (List.mem_append_left _ (weightsAll_mem hd n hn)))⟩
set_option maxRecDepth 100000 in
theorem slg_of_trod {α : Type} {st et : TypeId} {n bytes : Nat} (R : α → (Nat → Value) → Prop) (x0 : α) (hu : Try.prog.underlying st = some (.slice et)) (hc : Try.prog.cellsOf et = n) (hb : Try.prog.bytesOf et = bytes) (hn : 0 < n)
  (d : DataW H) (fuel : Nat) (v : Value) (ps : List MemPlace) (h : DataW.trod enc Try.prog W 0 (fun _ => true) true fuel st [v] = some (d, ps)) (hf : Fits Try.prog st d)
  (hel : ∀ (d' : DataW H) (fuel' : Nat) (cs : List Value) (ps' : List MemPlace), SizeOf.sizeOf d' < SizeOf.sizeOf d → DataW.trod enc Try.prog W 0 (fun _ => true) true fuel' et cs = some (d', ps') → Fits Try.prog et d' → ∃ (x : α) (c : Nat → Value), (∀ j, j < n → cs[j]? = some (c j)) ∧ R x c) :
  ∃ l, SlG (fun k => k < W.heap.size) W n bytes R l v ∧ l.length * bytes ≤ 140737488351232 := by
 rcases open_slice hu h with ⟨hcs, hx⟩ | ⟨a, len, cap, mm, nf, D, Pl, hcs, _, hl, hm, hmm, hx, hall⟩
 ·simp only [List.cons.injEq, and_true] at hcs
  subst hcs;exact ⟨[], ⟨none, 0, 0, 0, rfl, Nat.le_refl _, by simp, fun h => by omega, fun h => by simp at h, fun i hi => by simp at hi⟩, by simp⟩
 ·simp only [List.cons.injEq, and_true] at hcs
  subst hcs;simp only [if_true] at hmm
  subst hmm;simp only [Prod.mk.injEq] at hx
  obtain ⟨hd, _⟩ := hx;rw [hc] at hall;have hfv := hf;rw [hd] at hfv;obtain ⟨hcap, hfe⟩ := fits_slice hu hb hfv
  have hcap' : mm * bytes ≤ 140737488351232 := by
   simp only [List.length_map, List.length_range] at hcap
   have : len + (mm - len) = mm := by omega
   rw [this] at hcap;exact hcap
  have hsz : ∀ i, i < len → SizeOf.sizeOf (D i) < SizeOf.sizeOf d := fun i hi => by rw [hd]; exact sizeOf_mem hi
  have hspot : 0 < mm → a.spot = none := fun h0 => by
   obtain ⟨cs', g1, g2⟩ := hall 0 h0;obtain ⟨_, hlen, hcell⟩ := World.cells?_some g1;have hc0 : cs'[0]? = some (cs'[0]'(by omega)) := List.getElem?_eq_getElem _;have := World.cell?_spot ((hcell 0 hn).trans hc0)
   simpa [Addr.add] using this
  have key : ∀ i : Nat, ∃ p : α × (Nat → Value), i < len → (∀ j, j < n → W.cell? ⟨a.block, a.off + i * n + j, none⟩ = some (p.2 j)) ∧ R p.1 p.2 := by
   intro i
   by_cases hi : i < len
   ·obtain ⟨cs', g1, g2⟩ := hall i (by omega)
    obtain ⟨x, c, hcj, hr⟩ := hel (D i) nf cs' (Pl i) (hsz i hi) g2 (hfe _ (List.mem_map_of_mem (List.mem_range.2 hi)));obtain ⟨_, hlen, hcell⟩ := World.cells?_some g1;refine ⟨(x, c), fun _ => ⟨fun j hj => ?_, hr⟩⟩;have hs := hspot (by omega);have e := (hcell j hj).trans (hcj j hj);obtain ⟨ab, ao, sp⟩ := a;simp only at hs
    subst hs;have add0 : ∀ (b o j : Nat), ((⟨b, o, none⟩ : Addr).add j) = ⟨b, o + j, none⟩ := by intro b o j; unfold Addr.add; split <;> simp_all
    rw [add0, add0] at e;exact e
   ·exact ⟨(x0, fun _ => undef), fun h => absurd h hi⟩
  obtain ⟨X, hX⟩ := Classical.axiomOfChoice key;have hby : len * bytes ≤ mm * bytes := Nat.mul_le_mul_right _ hl;refine ⟨(List.range len).map (fun i => (X i).1), ⟨some a, a.block, a.off, mm, by simp, by simpa using hl, by simp; omega, fun h0 => ?_, fun h0 => ?_, fun i hi => ?_⟩, by simp; omega⟩
  ·have := hspot h0
   obtain ⟨b, o, sp⟩ := a;simp at this
   subst this;rfl
  ·simp at h0
   obtain ⟨q, _⟩ := hX 0 (by omega);exact cell_lt (a := ⟨a.block, _, none⟩) (q 0 hn)
  ·have hi' : i < len := by simpa using hi
   obtain ⟨q, hr⟩ := hX i hi';exact ⟨_, q, by rw [List.getElem_map, List.getElem_range]; exact hr⟩
theorem fits_tm_val {a0 a1 a2 a3 : DataW H} (h : Fits Try.prog 30 (.agg [a0, a1, a2, a3])) : Fits Try.prog 28 a2 := fun n hn => h n (by
 simp only [DataW.weights, Try.underlying30, List.map_cons, List.map_nil, DataW.weightsEach, List.mem_append]
 exact Or.inr (Or.inr (Or.inl hn)))
theorem fits_tm_args {a0 a1 a2 a3 : DataW H} (h : Fits Try.prog 30 (.agg [a0, a1, a2, a3])) : Fits Try.prog 22 a3 := fun n hn => h n (by
 simp only [DataW.weights, Try.underlying30, List.map_cons, List.map_nil, DataW.weightsEach, List.mem_append]
 exact Or.inr (Or.inr (Or.inr (Or.inl hn))))
def at7o (c0 c1 c2 c3 c4 c5 c6 : Value) : Nat → Value
 | 0 => c0 | 1 => c1 | 2 => c2 | 3 => c3 | 4 => c4 | 5 => c5 | _ => c6
set_option maxRecDepth 100000 in
theorem tm_of_trod (d : DataW H) (fuel : Nat) (cs : List Value) (ps : List MemPlace) (h : DataW.trod enc Try.prog W 0 (fun _ => true) true fuel 30 cs = some (d, ps)) (hf : Fits Try.prog 30 d) :
  ∃ x c0 c1 c2 c3 c4 c5 c6, cs = [c0, c1, c2, c3, c4, c5, c6] ∧ RepM (fun k => k < W.heap.size) W x c0 c1 c2 c3 c4 c5 c6 := by
 obtain ⟨y0, y1, y2, y3, n, hx, hlen, h0, h1, h2, h3⟩ := trod_struct4 Try.underlying30 h;rw [cellsTm] at hlen
 match cs, hlen with
 | [c0, c1, c2, c3, c4, c5, c6], _ =>
  simp only [Prod.mk.injEq] at hx
  simp [cellsInt] at h0
  simp [cellsString] at h1
  simp [cellsValue] at h2
  simp [cellsTms] at h3
  obtain ⟨k, e0, r0, w0⟩ := DataW.trod_int Try.underlying3 h0;obtain ⟨s, e1, r1, w1⟩ := DataW.trod_string Try.underlying9 h1;simp at e0 e1
  subst e0 e1;have hd : d = .agg [y0.1, y1.1, y2.1, y3.1] := by simpa using hx.1
  have hsz : SizeOf.sizeOf y3.1 < SizeOf.sizeOf d := by rw [hd]; simp; omega
  subst hd;obtain ⟨x, d0, d1, d2, d3, e2, hr⟩ := rep_of_trod y2.1 n _ y2.2 h2 (fits_tm_val hf);simp only [List.cons.injEq, and_true] at e2
  obtain ⟨rfl, rfl, rfl, rfl⟩ := e2
  obtain ⟨l, hl, -⟩ := slg_of_trod (fun (x : Tm) c => RepM (fun k => k < W.heap.size) W x (c 0) (c 1) (c 2) (c 3) (c 4) (c 5) (c 6)) (.mk 0 ⟨#[]⟩ (.mk 0 0 ⟨#[]⟩ []) []) Try.underlying22 cellsTm bytesTm (by omega) y3.1 n c6 y3.2 h3 (fits_tm_args hf)
   (fun d' fuel' cs' ps' hs h' hf' => by
    obtain ⟨x, c0, c1, c2, c3, c4, c5, c6, rfl, hr⟩ := tm_of_trod d' fuel' cs' ps' h' hf'
    exact ⟨x, at7o c0 c1 c2 c3 c4 c5 c6, fun j hj => match j, hj with
     | 0, _ => rfl | 1, _ => rfl | 2, _ => rfl | 3, _ => rfl | 4, _ => rfl | 5, _ => rfl | 6, _ => rfl, hr⟩)
  exact ⟨.mk k s x l, _, _, _, _, _, _, _, rfl, repM_mk.2 ⟨rfl, rfl, i64_wf w0, w1, hr, hl⟩⟩
 termination_by SizeOf.sizeOf d
theorem tms_of_trod (d : DataW H) (fuel : Nat) (v : Value) (ps : List MemPlace) (h : DataW.trod enc Try.prog W 0 (fun _ => true) true fuel 22 [v] = some (d, ps)) (hf : Fits Try.prog 22 d) :
  ∃ l, RepMs (fun k => k < W.heap.size) W l v := by
 obtain ⟨l, hl, -⟩ := slg_of_trod (fun (x : Tm) c => RepM (fun k => k < W.heap.size) W x (c 0) (c 1) (c 2) (c 3) (c 4) (c 5) (c 6)) (.mk 0 ⟨#[]⟩ (.mk 0 0 ⟨#[]⟩ []) []) Try.underlying22 cellsTm bytesTm (by omega) d fuel v ps h hf
   (fun d' fuel' cs' ps' hs h' hf' => by
    obtain ⟨x, c0, c1, c2, c3, c4, c5, c6, rfl, hr⟩ := tm_of_trod d' fuel' cs' ps' h' hf'
    exact ⟨x, at7o c0 c1 c2 c3 c4 c5 c6, fun j hj => match j, hj with
     | 0, _ => rfl | 1, _ => rfl | 2, _ => rfl | 3, _ => rfl | 4, _ => rfl | 5, _ => rfl | 6, _ => rfl, hr⟩)
 exact ⟨l, hl⟩
end
end Go.Proofs.Ytjmnnjikmmglpaa
namespace Go.Proofs.Ytjmnnjikmmglpaa
open Go.ChangeShapes Go.WideShapes Go.ChangeAt Go.RowKit Go.Deep Go.Joins
theorem cellsBd : Try.prog.cellsOf 43 = 5 := by kernel_rfl
theorem bytesBd : Try.prog.bytesOf 43 = 72 := by kernel_rfl
section
variable {H : Type} {enc : TypeId × Value → H} {W : World}
theorem fits_bd_val {a0 a1 : DataW H} (h : Fits Try.prog 43 (.agg [a0, a1])) : Fits Try.prog 28 a1 := fun n hn => h n (by
 simp only [DataW.weights, Try.underlying43, List.map_cons, List.map_nil, DataW.weightsEach, List.mem_append]
 exact Or.inr (Or.inl hn))
def at5o (c0 c1 c2 c3 c4 : Value) : Nat → Value
 | 0 => c0 | 1 => c1 | 2 => c2 | 3 => c3 | _ => c4
set_option maxRecDepth 100000 in
theorem bd_of_trod (d : DataW H) (fuel : Nat) (cs : List Value) (ps : List MemPlace) (h : DataW.trod enc Try.prog W 0 (fun _ => true) true fuel 43 cs = some (d, ps)) (hf : Fits Try.prog 43 d) :
  ∃ x c0 c1 c2 c3 c4, cs = [c0, c1, c2, c3, c4] ∧ RepB (fun k => k < W.heap.size) W x c0 c1 c2 c3 c4 := by
 obtain ⟨y0, y1, n, hx, hlen, h0, h1⟩ := trod_struct2 Try.underlying43 h;rw [cellsBd] at hlen
 match cs, hlen with
 | [c0, c1, c2, c3, c4], _ =>
  simp only [Prod.mk.injEq] at hx
  simp [cellsString] at h0
  simp [cellsValue] at h1
  obtain ⟨s, e0, r0, w0⟩ := DataW.trod_string Try.underlying9 h0;simp at e0
  subst e0;have hd : d = .agg [y0.1, y1.1] := by simpa using hx.1
  subst hd;obtain ⟨x, d0, d1, d2, d3, e2, hr⟩ := rep_of_trod y1.1 n _ y1.2 h1 (fits_bd_val hf);simp only [List.cons.injEq, and_true] at e2
  obtain ⟨rfl, rfl, rfl, rfl⟩ := e2;exact ⟨(s, x), _, _, _, _, _, rfl, rfl, w0, hr⟩
set_option maxRecDepth 100000 in
theorem open_binds {base : Nat} {v : Value} {d : DataW H} {p : List MemPlace} (hv : Value.okWide Try.prog W .any base 24 v) (h : DataW.Trod enc Try.prog W 0 (fun _ => true) true 24 v d p) (hf : Fits Try.prog 24 d) :
  ∃ l, RepBs (fun k => k < W.heap.size) W l v ∧ l.length * 72 ≤ 140737488351232 := by
 obtain ⟨a0, len, cap, rfl⟩ := okWide_slice Try.underlying24 hv;obtain ⟨fuel, hf'⟩ := h
 obtain ⟨l, hl, hn⟩ := slg_of_trod (fun (x : Bd) c => RepB (fun k => k < W.heap.size) W x (c 0) (c 1) (c 2) (c 3) (c 4)) (⟨#[]⟩, .mk 0 0 ⟨#[]⟩ []) Try.underlying24 cellsBd bytesBd (by omega) d fuel _ p (by simpa [Value.cells] using hf') hf
   (fun d' fuel' cs' ps' hs h' hf' => by
    obtain ⟨x, c0, c1, c2, c3, c4, rfl, hr⟩ := bd_of_trod d' fuel' cs' ps' h' hf'
    exact ⟨x, at5o c0 c1 c2 c3 c4, fun j hj => match j, hj with
     | 0, _ => rfl | 1, _ => rfl | 2, _ => rfl | 3, _ => rfl | 4, _ => rfl, hr⟩)
 exact ⟨l, hl, hn⟩
set_option maxRecDepth 100000 in
theorem open_terms {base : Nat} {v : Value} {d : DataW H} {p : List MemPlace} (hv : Value.okWide Try.prog W .any base 22 v) (h : DataW.Trod enc Try.prog W 0 (fun _ => true) true 22 v d p) (hf : Fits Try.prog 22 d) :
  ∃ l, RepMs (fun k => k < W.heap.size) W l v := by
 obtain ⟨a0, len, cap, rfl⟩ := okWide_slice Try.underlying22 hv;obtain ⟨fuel, hf'⟩ := h;exact tms_of_trod d fuel _ p (by simpa [Value.cells] using hf') hf
end
end Go.Proofs.Ytjmnnjikmmglpaa
namespace Go.Proofs.Ytjmnnjikmmglpaa.bindMatches
open Go.ChangeShapes Go.WideShapes Go.ChangeAt Go.RowKit
open Go.ChangeMaps (open_string)
set_option maxRecDepth 100000 in
theorem contract (H : Type) (enc : TypeId × Value → H) (W : World) (base : Nat) (args : Array Value) (ds gs : List (DataW H)) (before : List MemPlace)
  (hval : ∀ (j : Nat) t v, Try.f4.params[j]? = some t → args[j]? = some v → Value.okWide Try.prog W .any base t v)
  (hW : DataW.Whole enc Try.prog Try.f4.params.toList Rows.bindMatchesSpec.vars false W args.toList ds gs before)
  (hz : (DataW.weightsEach Try.prog (Try.f4.params.toList ++ []) (ds ++ gs)).all (· ≤ reachBytes) = true) (_hL : laidMet Try.prog Rows.bindMatchesRow.laid W) :
  Calls Try.prog 4 args W fun e W' => ∃ v, e = .returned v ∧ Rows.bindMatchesSpec.post enc Try.prog Try.f4 false true false false W args v W' := by
 have hW' := hW;obtain ⟨p, q, hA0, hV, rfl, hfz, hnd⟩ := hW;have hA : DataW.TrodAll enc Try.prog W 0 (fun _ => true) true Try.f4.params.toList args.toList ds p := hA0;clear hA0;rw [Try.params4] at hA hval hz;obtain ⟨v0, vs0, d0, ds0, p0, q0, hargs, rfl, rfl, h0, r0⟩ := trodAll_cons hA;obtain ⟨v1, vs1, d1, ds1, p1, q1, rfl, rfl, rfl, h1, r1⟩ := trodAll_cons r0;obtain ⟨v2, vs2, d2, ds2, p2, q2, rfl, rfl, rfl, h2, r2⟩ := trodAll_cons r1;obtain ⟨v3, vs3, d3, ds3, p3, q3, rfl, rfl, rfl, h3, r3⟩ := trodAll_cons r2;obtain ⟨rfl, rfl, rfl⟩ := trodAll_nil r3;obtain rfl : args = #[v0, v1, v2, v3] := by cases args; simp_all
 obtain ⟨rfl, rfl⟩ := trodVars_none hV;have z0 : (DataW.weightsEach Try.prog [22, 23, 24, 24] [d0, d1, d2, d3]).all (· ≤ reachBytes) = true := by simpa using hz
 obtain ⟨f0, z1⟩ := fits_cons z0;obtain ⟨f1, z2⟩ := fits_cons z1;obtain ⟨f2, z3⟩ := fits_cons z2;obtain ⟨f3, z4⟩ := fits_cons z3;obtain ⟨x0, g0⟩ := open_terms (hval 0 22 v0 rfl rfl) h0 f0;obtain ⟨x1, g1, k1⟩ := open_values (hval 1 23 v1 rfl rfl) h1 f1;obtain ⟨x2, g2, k2⟩ := open_binds (hval 2 24 v2 rfl rfl) h2 f2;obtain ⟨x3, g3, k3⟩ := open_binds (hval 3 24 v3 rfl rfl) h3 f3
 -- USE: walk DATA W CELLS htab FACTS
 refine (walk x0 x1 x2 x3 W v0 v1 v2 v3 g0 g1 g2 g3).mono fun e W' ⟨he, hb⟩ => ⟨_, he, law_post rfl (by kernel_rfl) (fun t ht => ?_) hW' rfl hb⟩
 rw [Try.params4] at ht;have ht' : t = 22 ∨ t = 23 ∨ t = 24 ∨ t = 24 := by simpa using ht
 rcases ht' with rfl | rfl | rfl | rfl <;> exact ⟨by kernel_rfl, of_decide_eq_true (by kernel_rfl)⟩
set_option maxRecDepth 100000 in
theorem laid_met (os : Os) : laidMet Try.prog Rows.bindMatchesRow.laid ((plainWorld os).forCall (fun _ _ => 0) ⟨#[], #[.slice none 0 0, .slice none 0 0, .slice none 0 0, .slice none 0 0], []⟩).memory :=
 laidMet_of_run' 8 (by kernel_rfl) (by kernel_rfl)
set_option maxRecDepth 100000 in
theorem reads (os : Os) {H : Type} (enc : TypeId × Value → H) : ∃ places, DataW.whole enc Try.prog ((plainWorld os).forCall (fun _ _ => 0) ⟨#[], #[.slice none 0 0, .slice none 0 0, .slice none 0 0, .slice none 0 0], []⟩).memory Try.f4.params.toList Rows.bindMatchesSpec.vars false (#[.slice none 0 0, .slice none 0 0, .slice none 0 0, .slice none 0 0] : Array Value).toList 8 = some ([.nil, .nil, .nil, .nil], [], places) :=
 ⟨[], by kernel_rfl⟩
set_option maxRecDepth 100000 in
theorem lifted (os : Os) (started : os.Started) (H : Type) (enc : TypeId × Value → H) (F : Stop.Interp) :
  ReturnsInHanded {} Try.checked os 4 .any ((OpenSpec.ofChange Rows.bindMatchesSpec).preRow enc Try.prog Try.f4 Rows.bindMatchesRow.domain false Rows.bindMatchesRow.laid) (((OpenSpec.ofChange Rows.bindMatchesSpec).at F).post enc Try.prog Try.f4 false true false false) := by
 obtain ⟨places, hx⟩ := reads os enc
 refine returnsInHanded_of_row (C := Try.checked) (s := OpenSpec.ofChange Rows.bindMatchesSpec) own started (by kernel_rfl) Try.func4
  (witness_row_at (enc := enc) (C := Try.checked) false (plainWorld os) #[.slice none 0 0, .slice none 0 0, .slice none 0 0, .slice none 0 0] rfl (by kernel_rfl) (by kernel_rfl) (by kernel_rfl)
   (OpenSpec.preRow_of_cond 8 hx (by kernel_rfl) (fun k hk => by cases hk) (by kernel_rfl) (laid_met os))) ?_
 intro W base args ds gs before hval hW _ _ hz hL _ _;exact contract H enc W base args ds gs before hval hW hz hL
set_option maxRecDepth 100000 in
theorem said : Rows.BindMatchesSaid :=
 OpenClaim.holds_of_cond 4 Try.f4 rfl rfl rfl rfl rfl rfl rfl ⟨rfl, rfl, rfl, rfl, rfl⟩ rfl rfl rfl rfl rfl (by kernel_rfl) Try.func4 (by kernel_rfl)
  (of_decide_eq_true (by kernel_rfl)) (by unfold Func.isWrapper; first | (rw [if_pos (by decide +kernel)]; kernel_rfl) | (rw [if_neg (by decide +kernel)]; exact ⟨rfl, rfl⟩))
  (fun os started H enc _ F => by rw [OpenClaim.pre_eq_preRow]; exact lifted os started H enc F)
theorem holds : Rows.BindMatchesSaid := said
#print axioms holds
end Go.Proofs.Ytjmnnjikmmglpaa.bindMatches
