/-
  Open, LawPost, OpenFour
-/
import Derived.Test.YtjohcnhiblfbnaaGreatK01
import Derived.Test.YtjohcnhiblfbnaaGreatRows
import Derived.Test.YtjohcnhiblfbnaaGreatK02
import Derived.ProofKit
import Derived.Lib.SmallJoins
import Derived.Deep.Slices
import Derived.OpenShut
import Derived.Deep.DeepHandedRow
import Derived.Deep.Strs
namespace Go.Proofs.YtjohcnhiblfbnaaGreat
open Go.ChangeShapes Go.WideShapes Go.ChangeAt Go.RowKit Go.Deep Go.Joins
theorem cellsValue : Tryz.prog.cellsOf 31 = 4 := by kernel_rfl
theorem bytesValue : Tryz.prog.bytesOf 31 = 56 := by kernel_rfl
theorem cellsInt : Tryz.prog.cellsOf 3 = 1 := by kernel_rfl
theorem cellsString : Tryz.prog.cellsOf 9 = 1 := by kernel_rfl
theorem cellsValues : Tryz.prog.cellsOf 29 = 1 := by kernel_rfl
theorem i64_wf {n : Int} (h : (Lit.int .i64 n).wf = true) : I64 n := bounds_i64 h
section
variable {H : Type} {enc : TypeId × Value → H} {W : World}
theorem weightsAll_mem {P : Program} {e : TypeId} {ds : List (DataW H)} {d : DataW H} (h : d ∈ ds) (n : Nat) (hn : n ∈ d.weights P e) : n ∈ DataW.weightsAll P e ds := by
 induction ds with
 | nil => cases h
 | cons x r ih =>
  rw [DataW.weightsAll, List.mem_append];rcases List.mem_cons.1 h with rfl | h
  ·exact Or.inl hn
  ·exact Or.inr (ih h)
def Fits (P : Program) (t : TypeId) (d : DataW H) : Prop := ∀ n ∈ d.weights P t, n ≤ reachBytes
theorem fits_value {a b c e : DataW H} (h : Fits Tryz.prog 31 (.agg [a, b, c, e])) : Fits Tryz.prog 29 e := fun n hn => h n (by
 simp only [DataW.weights, Tryz.underlying31, List.map_cons, List.map_nil, DataW.weightsEach, List.mem_append]
 exact Or.inr (Or.inr (Or.inr (Or.inl hn))))
theorem fits_values {elems spare : List (DataW H)} (h : Fits Tryz.prog 29 (.slice elems spare)) : (elems.length + spare.length) * 56 ≤ 140737488351232 ∧ ∀ d ∈ elems, Fits Tryz.prog 31 d := by
 simp only [Fits, DataW.weights, Tryz.underlying29, bytesValue] at h
 refine ⟨h _ (List.mem_cons_self), fun d hd n hn => h n (List.mem_cons_of_mem _ (List.mem_append_left _ (weightsAll_mem hd n hn)))⟩
theorem cell_lt {w : World} {a : Addr} {v : Value} (h : w.cell? a = some v) : a.block < w.heap.size := by
 by_cases hlt : a.block < w.heap.size
 ·exact hlt
 ·have hn : w.heap[a.block]? = none := by simp; omega
  simp [World.cell?, hn] at h
theorem cells4 {w : World} {a : Addr} {cs : List Value} (h : w.cells? 0 a 4 = some cs) : ∃ c0 c1 c2 c3, cs = [c0, c1, c2, c3] ∧ a.spot = none ∧ w.cell? ⟨a.block, a.off, none⟩ = some c0 ∧ w.cell? ⟨a.block, a.off + 1, none⟩ = some c1 ∧ w.cell? ⟨a.block, a.off + 2, none⟩ = some c2 ∧ w.cell? ⟨a.block, a.off + 3, none⟩ = some c3 := by
 obtain ⟨_, hlen, hcell⟩ := World.cells?_some h;obtain ⟨b, o, sp⟩ := a
 match cs, hlen with
 | [c0, c1, c2, c3], _ =>
  have hsp : sp = none := by simpa [Addr.add] using World.cell?_spot (hcell 0 (by omega))
  subst hsp;exact ⟨c0, c1, c2, c3, rfl, rfl, by simpa [Addr.add] using hcell 0 (by omega), by simpa [Addr.add] using hcell 1 (by omega), by simpa [Addr.add] using hcell 2 (by omega), by simpa [Addr.add] using hcell 3 (by omega)⟩
theorem add_block (a : Addr) (n : Nat) : (a.add n).block = a.block := by unfold Addr.add; split <;> simp_all
theorem add_off (a : Addr) (n : Nat) : (a.add n).off = a.off + n := by unfold Addr.add; split <;> simp_all
theorem sizeOf_mem {D : Nat → DataW H} {len i : Nat} (h : i < len) {sp : List (DataW H)} : SizeOf.sizeOf (D i) < SizeOf.sizeOf (DataW.slice ((List.range len).map D) sp) := by
 have := List.sizeOf_lt_of_mem (List.mem_map_of_mem (f := D) (List.mem_range.2 h));simp only [DataW.slice.sizeOf_spec]
 omega
set_option maxRecDepth 100000 in
mutual
theorem rep_of_trod (d : DataW H) (fuel : Nat) (cs : List Value) (ps : List MemPlace) (h : DataW.trod enc Tryz.prog W 0 (fun _ => true) true fuel 31 cs = some (d, ps)) (hf : Fits Tryz.prog 31 d) :
  ∃ x c0 c1 c2 c3, cs = [c0, c1, c2, c3] ∧ RepV W.heap.size W x c0 c1 c2 c3 := by
 obtain ⟨y0, y1, y2, y3, n, hx, hlen, h0, h1, h2, h3⟩ := trod_struct4 Tryz.underlying31 h;rw [cellsValue] at hlen
 match cs, hlen with
 | [c0, c1, c2, c3], _ =>
  simp only [Prod.mk.injEq] at hx
  simp [cellsInt] at h0 h1
  simp [cellsString] at h2
  simp [cellsValues] at h3
  obtain ⟨k, e0, r0, w0⟩ := DataW.trod_int Tryz.underlying3 h0;obtain ⟨m, e1, r1, w1⟩ := DataW.trod_int Tryz.underlying3 h1;obtain ⟨s, e2, r2, w2⟩ := DataW.trod_string Tryz.underlying9 h2;simp at e0 e1 e2
  subst e0 e1 e2;have hd : d = .agg [y0.1, y1.1, y2.1, y3.1] := by simpa using hx.1
  have hsz : SizeOf.sizeOf y3.1 < SizeOf.sizeOf d := by rw [hd]; simp; omega
  subst hd;obtain ⟨l, hl, -⟩ := repL_of_trod y3.1 n c3 y3.2 h3 (fits_value hf);exact ⟨.mk k m s l, _, _, _, _, rfl, repV_mk.2 ⟨rfl, rfl, rfl, i64_wf w0, i64_wf w1, w2, hl⟩⟩
 termination_by SizeOf.sizeOf d
theorem repL_of_trod (d : DataW H) (fuel : Nat) (v : Value) (ps : List MemPlace) (h : DataW.trod enc Tryz.prog W 0 (fun _ => true) true fuel 29 [v] = some (d, ps)) (hf : Fits Tryz.prog 29 d) :
  ∃ l, RepL W.heap.size W l v ∧ l.length * 56 ≤ 140737488351232 := by
 rcases open_slice Tryz.underlying29 h with ⟨hc, hx⟩ | ⟨a, len, cap, mm, n, D, Pl, hc, _, hl, hm, hmm, hx, hall⟩
 ·simp only [List.cons.injEq, and_true] at hc
  subst hc;exact ⟨[], ⟨none, 0, 0, 0, rfl, Nat.le_refl _, by simp, fun h => by omega, fun h => by simp at h, fun i hi => by simp at hi⟩, by simp⟩
 ·simp only [List.cons.injEq, and_true] at hc
  subst hc;simp only [if_true] at hmm
  subst hmm;simp only [Prod.mk.injEq] at hx
  obtain ⟨hd, _⟩ := hx;rw [cellsValue] at hall;have hfv := hf;rw [hd] at hfv;obtain ⟨hcap, hfe⟩ := fits_values hfv
  have hcap' : mm * 56 ≤ 140737488351232 := by
   simp only [List.length_map, List.length_range] at hcap
   have : len + (mm - len) = mm := by omega
   rw [this] at hcap;exact hcap
  have hsz : ∀ i, i < len → SizeOf.sizeOf (D i) < SizeOf.sizeOf d := fun i hi => by rw [hd]; exact sizeOf_mem hi
  have key : ∀ i : Nat, ∃ x : V, i < len → ∃ c0 c1 c2 c3, W.cell? ⟨a.block, a.off + i * 4, none⟩ = some c0 ∧ W.cell? ⟨a.block, a.off + i * 4 + 1, none⟩ = some c1 ∧ W.cell? ⟨a.block, a.off + i * 4 + 2, none⟩ = some c2 ∧ W.cell? ⟨a.block, a.off + i * 4 + 3, none⟩ = some c3 ∧ RepV W.heap.size W x c0 c1 c2 c3 := by
   intro i
   by_cases hi : i < len
   ·obtain ⟨cs', g1, g2⟩ := hall i (by omega)
    have := hsz i hi;obtain ⟨x, c0, c1, c2, c3, rfl, hr⟩ := rep_of_trod (D i) n cs' (Pl i) g2 (hfe _ (List.mem_map_of_mem (List.mem_range.2 hi)));obtain ⟨d0, d1, d2, d3, he, hsp, q0, q1, q2, q3⟩ := cells4 g1;simp only [List.cons.injEq, and_true] at he
    obtain ⟨rfl, rfl, rfl, rfl⟩ := he;rw [add_block, add_off] at q0 q1 q2 q3;exact ⟨x, fun _ => ⟨_, _, _, _, q0, q1, q2, q3, hr⟩⟩
   ·exact ⟨.mk 0 0 ⟨#[]⟩ [], fun h => absurd h hi⟩
  obtain ⟨X, hX⟩ := Classical.axiomOfChoice key
  have hspot : 0 < mm → a.spot = none := fun h0 => by
   obtain ⟨cs', g1, g2⟩ := hall 0 h0;obtain ⟨d0, d1, d2, d3, he, hsp, _⟩ := cells4 g1
   simpa [Addr.add] using hsp
  refine ⟨(List.range len).map X, ⟨some a, a.block, a.off, mm, by simp, by simpa using hl, by simp; omega, fun h0 => ?_, fun h0 => ?_, fun i hi => ?_⟩, by simp; omega⟩
  ·have := hspot h0
   obtain ⟨b, o, sp⟩ := a;simp at this
   subst this;rfl
  ·simp at h0
   obtain ⟨c0, _, _, _, q, _⟩ := hX 0 (by omega);exact cell_lt (a := ⟨a.block, _, none⟩) q
  ·have hi' : i < len := by simpa using hi
   obtain ⟨c0, c1, c2, c3, q0, q1, q2, q3, hr⟩ := hX i hi';exact ⟨c0, c1, c2, c3, q0, q1, q2, q3, by rw [List.getElem_map, List.getElem_range]; exact hr⟩
 termination_by SizeOf.sizeOf d
end
end
end Go.Proofs.YtjohcnhiblfbnaaGreat
namespace Go.Proofs.YtjohcnhiblfbnaaGreat
open Go.ChangeShapes Go.WideShapes Go.ChangeAt Go.RowKit
theorem own : ownKnob Tryz.prog.godebug = none := by kernel_rfl
theorem laidOut : laidOutB Tryz.prog = true := by kernel_rfl
noncomputable def plainWorld (os : Os) : World := World.holding Tryz.prog os ⟨#[], #[], []⟩
section
variable {H : Type} {enc : TypeId × Value → H}
theorem trodAll_below {W W' : World} (hb : Below W.heap.size W W') : ∀ (ts : List TypeId) (vs : List Value) (ds : List (DataW H)) (ps : List MemPlace), DataW.TrodAll enc Tryz.prog W 0 (fun _ => true) true ts vs ds ps →
  (∀ t ∈ ts, Tryz.prog.readableRec t = true ∧ t < Tryz.prog.types.size) → (∀ x ∈ ps, x.block < W.heap.size) → DataW.TrodAll enc Tryz.prog W' 0 (fun b => decide (b < W.heap.size)) true ts vs ds ps
 | [], [], [], ps, h, _, _ => h
 | t :: ts, v :: vs, d :: ds, ps, h, ht, hp => by
  obtain ⟨p, q, h1, h2, rfl⟩ := h;obtain ⟨r1, r2⟩ := ht t (by simp);exact ⟨p, q, Below.trod laidOut r1 r2 h1 hb (fun x hx => hp x (by simp [hx])), trodAll_below hb ts vs ds q h2 (fun t' h' => ht t' (by simp [h'])) (fun x hx => hp x (by simp [hx])), rfl⟩
 | [], _ :: _, _, _, h, _, _ => by cases h
 | _ :: _, [], _, _, h, _, _ => by cases h
 | [], [], _ :: _, _, h, _, _ => by cases h
 | _ :: _, _ :: _, [], _, h, _, _ => by cases h
theorem law_post {fn : Func} {s : ChangeSpec} {W W' : World} {args : Array Value} {ds gs : List (DataW H)} {before : List MemPlace}
  (hvars : s.vars = []) (hres : fn.resultTypes = #[4]) (hread : ∀ t ∈ fn.params.toList, Tryz.prog.readableRec t = true ∧ t < Tryz.prog.types.size)
  (hW : DataW.Whole enc Tryz.prog fn.params.toList s.vars false W args.toList ds gs before)
  (hs : s.fn H (ds ++ gs) = { results := [.lit (.bool true)], args := ds })
  (hb : Below W.heap.size W W') : s.post enc Tryz.prog fn false true false false W args (.bool true) W' := by
 have hW' := hW;obtain ⟨p, q, hA, hV, rfl, hfz, hnd⟩ := hW;rw [hvars] at hV;obtain ⟨rfl, rfl⟩ := trodVars_none hV;refine ⟨ds, [], p ++ [], [], p, [], hW', ?_, ?_, ?_, hb.frame _, fun h => by cases h⟩
 ·rw [hres, hs]
  exact trodAll_cons_mk (shut_bool Tryz.underlying4 _) trodAll_mk0
 ·rw [hs]
  exact trodAll_below hb _ _ _ _ hA hread (fun x hx => hW'.lt x (by simp [hx]))
 ·rw [hs, hvars]
  rfl
theorem fits_cons {t : TypeId} {ts : List TypeId} {d : DataW H} {ds : List (DataW H)} (h : (DataW.weightsEach Tryz.prog (t :: ts) (d :: ds)).all (· ≤ reachBytes) = true) :
  Fits Tryz.prog t d ∧ (DataW.weightsEach Tryz.prog ts ds).all (· ≤ reachBytes) = true := by
 rw [DataW.weightsEach, List.all_append, Bool.and_eq_true] at h;exact ⟨fun n hn => by simpa using (List.all_eq_true.1 h.1) n hn, h.2⟩
end
end Go.Proofs.YtjohcnhiblfbnaaGreat
namespace Go.Proofs.YtjohcnhiblfbnaaGreat
open Go.ChangeShapes Go.WideShapes Go.ChangeAt Go.RowKit Go.Deep Go.Joins
theorem cellsTm : Tryz.prog.cellsOf 34 = 7 := by kernel_rfl
theorem bytesTm : Tryz.prog.bytesOf 34 = 104 := by kernel_rfl
theorem cellsTms : Tryz.prog.cellsOf 32 = 1 := by kernel_rfl
theorem cellsLi : Tryz.prog.cellsOf 63 = 3 := by kernel_rfl
theorem bytesLi : Tryz.prog.bytesOf 63 = 48 := by kernel_rfl
theorem cellsLis : Tryz.prog.cellsOf 59 = 1 := by kernel_rfl
theorem cellsRu : Tryz.prog.cellsOf 61 = 6 := by kernel_rfl
theorem bytesRu : Tryz.prog.bytesOf 61 = 104 := by kernel_rfl
theorem cellsRus : Tryz.prog.cellsOf 24 = 1 := by kernel_rfl
theorem cellsDe : Tryz.prog.cellsOf 77 = 2 := by kernel_rfl
theorem bytesDe : Tryz.prog.bytesOf 77 = 24 := by kernel_rfl
theorem cellsDes : Tryz.prog.cellsOf 22 = 1 := by kernel_rfl
theorem cellsFa : Tryz.prog.cellsOf 68 = 2 := by kernel_rfl
theorem bytesFa : Tryz.prog.bytesOf 68 = 40 := by kernel_rfl
theorem cellsFas : Tryz.prog.cellsOf 23 = 1 := by kernel_rfl
theorem cellsPr : Tryz.prog.cellsOf 26 = 3 := by kernel_rfl
section
variable {H : Type} {enc : TypeId × Value → H} {W : World}
theorem fits_slice {st et : TypeId} {bytes : Nat} (hu : Tryz.prog.underlying st = some (.slice et)) (hb : Tryz.prog.bytesOf et = bytes) {elems spare : List (DataW H)} (h : Fits Tryz.prog st (.slice elems spare)) : (elems.length + spare.length) * bytes ≤ 140737488351232 ∧ ∀ d ∈ elems, Fits Tryz.prog et d := by
 simp only [Fits, DataW.weights, hu, hb] at h
 refine ⟨h _ (List.mem_cons_self), fun d hd n hn => h n (List.mem_cons_of_mem _ (List.mem_append_left _ (weightsAll_mem hd n hn)))⟩
set_option maxRecDepth 100000 in
theorem slg_of_trod {α : Type} {st et : TypeId} {n bytes : Nat} (R : α → (Nat → Value) → Prop) (x0 : α) (hu : Tryz.prog.underlying st = some (.slice et)) (hc : Tryz.prog.cellsOf et = n) (hb : Tryz.prog.bytesOf et = bytes) (hn : 0 < n)
  (d : DataW H) (fuel : Nat) (v : Value) (ps : List MemPlace) (h : DataW.trod enc Tryz.prog W 0 (fun _ => true) true fuel st [v] = some (d, ps)) (hf : Fits Tryz.prog st d)
  (hel : ∀ (d' : DataW H) (fuel' : Nat) (cs : List Value) (ps' : List MemPlace), SizeOf.sizeOf d' < SizeOf.sizeOf d → DataW.trod enc Tryz.prog W 0 (fun _ => true) true fuel' et cs = some (d', ps') → Fits Tryz.prog et d' → ∃ (x : α) (c : Nat → Value), (∀ j, j < n → cs[j]? = some (c j)) ∧ R x c) :
  ∃ l, SlG (fun k => k < W.heap.size) W n bytes R l v ∧ l.length * bytes ≤ 140737488351232 := by
 rcases open_slice hu h with ⟨hcs, hx⟩ | ⟨a, len, cap, mm, nf, D, Pl, hcs, _, hl, hm, hmm, hx, hall⟩
 ·simp only [List.cons.injEq, and_true] at hcs
  subst hcs;exact ⟨[], ⟨none, 0, 0, 0, rfl, Nat.le_refl _, by simp, fun h => by omega, fun h => by simp at h, fun i hi => by simp at hi⟩, by simp⟩
 ·simp only [List.cons.injEq, and_true] at hcs
  subst hcs;simp only [if_true] at hmm
  subst hmm;simp only [Prod.mk.injEq] at hx
  obtain ⟨hd, _⟩ := hx;rw [hc] at hall;have hfv := hf;rw [hd] at hfv;obtain ⟨hcap, hfe⟩ := fits_slice hu hb hfv
  have hcap' : mm * bytes ≤ 140737488351232 := by
   simp only [List.length_map, List.length_range] at hcap
   have : len + (mm - len) = mm := by omega
   rw [this] at hcap;exact hcap
  have hsz : ∀ i, i < len → SizeOf.sizeOf (D i) < SizeOf.sizeOf d := fun i hi => by rw [hd]; exact sizeOf_mem hi
  have hspot : 0 < mm → a.spot = none := fun h0 => by
   obtain ⟨cs', g1, g2⟩ := hall 0 h0;obtain ⟨_, hlen, hcell⟩ := World.cells?_some g1;have hc0 : cs'[0]? = some (cs'[0]'(by omega)) := List.getElem?_eq_getElem _;have := World.cell?_spot ((hcell 0 hn).trans hc0)
   simpa [Addr.add] using this
  have key : ∀ i : Nat, ∃ p : α × (Nat → Value), i < len → (∀ j, j < n → W.cell? ⟨a.block, a.off + i * n + j, none⟩ = some (p.2 j)) ∧ R p.1 p.2 := by
   intro i
   by_cases hi : i < len
   ·obtain ⟨cs', g1, g2⟩ := hall i (by omega)
    obtain ⟨x, c, hcj, hr⟩ := hel (D i) nf cs' (Pl i) (hsz i hi) g2 (hfe _ (List.mem_map_of_mem (List.mem_range.2 hi)));obtain ⟨_, hlen, hcell⟩ := World.cells?_some g1;refine ⟨(x, c), fun _ => ⟨fun j hj => ?_, hr⟩⟩;have hs := hspot (by omega);have e := (hcell j hj).trans (hcj j hj);obtain ⟨ab, ao, sp⟩ := a;simp only at hs
    subst hs;have add0 : ∀ (b o j : Nat), ((⟨b, o, none⟩ : Addr).add j) = ⟨b, o + j, none⟩ := by intro b o j; unfold Addr.add; split <;> simp_all
    rw [add0, add0] at e;exact e
   ·exact ⟨(x0, fun _ => undef), fun h => absurd h hi⟩
  obtain ⟨X, hX⟩ := Classical.axiomOfChoice key;have hby : len * bytes ≤ mm * bytes := Nat.mul_le_mul_right _ hl;refine ⟨(List.range len).map (fun i => (X i).1), ⟨some a, a.block, a.off, mm, by simp, by simpa using hl, by simp; omega, fun h0 => ?_, fun h0 => ?_, fun i hi => ?_⟩, by simp; omega⟩
  ·have := hspot h0
   obtain ⟨b, o, sp⟩ := a;simp at this
   subst this;rfl
  ·simp at h0
   obtain ⟨q, _⟩ := hX 0 (by omega);exact cell_lt (a := ⟨a.block, _, none⟩) (q 0 hn)
  ·have hi' : i < len := by simpa using hi
   obtain ⟨q, hr⟩ := hX i hi';exact ⟨_, q, by rw [List.getElem_map, List.getElem_range]; exact hr⟩
theorem trod_struct6 {t : TypeId} {f0 f1 f2 f3 f4 f5 : Field} {fuel : Nat} {cs : List Value} {x : DataW H × List MemPlace} (ht : Tryz.prog.underlying t = some (.struct #[f0, f1, f2, f3, f4, f5])) (h : DataW.trod enc Tryz.prog W 0 (fun _ => true) true fuel t cs = some x) :
  ∃ y0 y1 y2 y3 y4 y5 n, x.1 = .agg [y0.1, y1.1, y2.1, y3.1, y4.1, y5.1] ∧ cs.length = Tryz.prog.cellsOf t ∧ DataW.trod enc Tryz.prog W 0 (fun _ => true) true n f0.type ((cs.drop f0.offset).take (Tryz.prog.cellsOf f0.type)) = some y0 ∧
   DataW.trod enc Tryz.prog W 0 (fun _ => true) true n f1.type ((cs.drop f1.offset).take (Tryz.prog.cellsOf f1.type)) = some y1 ∧ DataW.trod enc Tryz.prog W 0 (fun _ => true) true n f2.type ((cs.drop f2.offset).take (Tryz.prog.cellsOf f2.type)) = some y2 ∧
   DataW.trod enc Tryz.prog W 0 (fun _ => true) true n f3.type ((cs.drop f3.offset).take (Tryz.prog.cellsOf f3.type)) = some y3 ∧ DataW.trod enc Tryz.prog W 0 (fun _ => true) true n f4.type ((cs.drop f4.offset).take (Tryz.prog.cellsOf f4.type)) = some y4 ∧
   DataW.trod enc Tryz.prog W 0 (fun _ => true) true n f5.type ((cs.drop f5.offset).take (Tryz.prog.cellsOf f5.type)) = some y5 := by
 obtain ⟨xs, n, _, rfl, hl, hlen, hf⟩ := DataW.trod_struct ht h
 match xs, hlen with
 | [y0, y1, y2, y3, y4, y5], _ => exact ⟨y0, y1, y2, y3, y4, y5, n, by simp, hl, by simpa using hf 0 f0 rfl, by simpa using hf 1 f1 rfl, by simpa using hf 2 f2 rfl, by simpa using hf 3 f3 rfl, by simpa using hf 4 f4 rfl, by simpa using hf 5 f5 rfl⟩
theorem fits_tm_val {a0 a1 a2 a3 : DataW H} (h : Fits Tryz.prog 34 (.agg [a0, a1, a2, a3])) : Fits Tryz.prog 31 a2 := fun n hn => h n (by
 simp only [DataW.weights, Tryz.underlying34, List.map_cons, List.map_nil, DataW.weightsEach, List.mem_append]
 exact Or.inr (Or.inr (Or.inl hn)))
theorem fits_tm_args {a0 a1 a2 a3 : DataW H} (h : Fits Tryz.prog 34 (.agg [a0, a1, a2, a3])) : Fits Tryz.prog 32 a3 := fun n hn => h n (by
 simp only [DataW.weights, Tryz.underlying34, List.map_cons, List.map_nil, DataW.weightsEach, List.mem_append]
 exact Or.inr (Or.inr (Or.inr (Or.inl hn))))
theorem fits_li_args {a0 a1 a2 : DataW H} (h : Fits Tryz.prog 63 (.agg [a0, a1, a2])) : Fits Tryz.prog 32 a2 := fun n hn => h n (by
 simp only [DataW.weights, Tryz.underlying63, List.map_cons, List.map_nil, DataW.weightsEach, List.mem_append]
 exact Or.inr (Or.inr (Or.inl hn)))
theorem fits_ru_args {a0 a1 a2 a3 a4 a5 : DataW H} (h : Fits Tryz.prog 61 (.agg [a0, a1, a2, a3, a4, a5])) : Fits Tryz.prog 32 a2 := fun n hn => h n (by
 simp only [DataW.weights, Tryz.underlying61, List.map_cons, List.map_nil, DataW.weightsEach, List.mem_append]
 exact Or.inr (Or.inr (Or.inl hn)))
theorem fits_ru_body {a0 a1 a2 a3 a4 a5 : DataW H} (h : Fits Tryz.prog 61 (.agg [a0, a1, a2, a3, a4, a5])) : Fits Tryz.prog 59 a5 := fun n hn => h n (by
 simp only [DataW.weights, Tryz.underlying61, List.map_cons, List.map_nil, DataW.weightsEach, List.mem_append]
 exact Or.inr (Or.inr (Or.inr (Or.inr (Or.inr (Or.inl hn))))))
theorem fits_fa_args {a0 a1 : DataW H} (h : Fits Tryz.prog 68 (.agg [a0, a1])) : Fits Tryz.prog 29 a1 := fun n hn => h n (by
 simp only [DataW.weights, Tryz.underlying68, List.map_cons, List.map_nil, DataW.weightsEach, List.mem_append]
 exact Or.inr (Or.inl hn))
theorem fits_pr_decls {a0 a1 a2 : DataW H} (h : Fits Tryz.prog 26 (.agg [a0, a1, a2])) : Fits Tryz.prog 22 a0 := fun n hn => h n (by
 simp only [DataW.weights, Tryz.underlying26, List.map_cons, List.map_nil, DataW.weightsEach, List.mem_append]
 exact Or.inl hn)
theorem fits_pr_facts {a0 a1 a2 : DataW H} (h : Fits Tryz.prog 26 (.agg [a0, a1, a2])) : Fits Tryz.prog 23 a1 := fun n hn => h n (by
 simp only [DataW.weights, Tryz.underlying26, List.map_cons, List.map_nil, DataW.weightsEach, List.mem_append]
 exact Or.inr (Or.inl hn))
theorem fits_pr_rules {a0 a1 a2 : DataW H} (h : Fits Tryz.prog 26 (.agg [a0, a1, a2])) : Fits Tryz.prog 24 a2 := fun n hn => h n (by
 simp only [DataW.weights, Tryz.underlying26, List.map_cons, List.map_nil, DataW.weightsEach, List.mem_append]
 exact Or.inr (Or.inr (Or.inl hn)))
def at7o (c0 c1 c2 c3 c4 c5 c6 : Value) : Nat → Value
 | 0 => c0 | 1 => c1 | 2 => c2 | 3 => c3 | 4 => c4 | 5 => c5 | _ => c6
set_option maxRecDepth 100000 in
theorem tm_of_trod (d : DataW H) (fuel : Nat) (cs : List Value) (ps : List MemPlace) (h : DataW.trod enc Tryz.prog W 0 (fun _ => true) true fuel 34 cs = some (d, ps)) (hf : Fits Tryz.prog 34 d) :
  ∃ x c0 c1 c2 c3 c4 c5 c6, cs = [c0, c1, c2, c3, c4, c5, c6] ∧ RepM (fun k => k < W.heap.size) W x c0 c1 c2 c3 c4 c5 c6 := by
 obtain ⟨y0, y1, y2, y3, n, hx, hlen, h0, h1, h2, h3⟩ := trod_struct4 Tryz.underlying34 h;rw [cellsTm] at hlen
 match cs, hlen with
 | [c0, c1, c2, c3, c4, c5, c6], _ =>
  simp only [Prod.mk.injEq] at hx
  simp [cellsInt] at h0
  simp [cellsString] at h1
  simp [cellsValue] at h2
  simp [cellsTms] at h3
  obtain ⟨k, e0, r0, w0⟩ := DataW.trod_int Tryz.underlying3 h0;obtain ⟨s, e1, r1, w1⟩ := DataW.trod_string Tryz.underlying9 h1;simp at e0 e1
  subst e0 e1;have hd : d = .agg [y0.1, y1.1, y2.1, y3.1] := by simpa using hx.1
  have hsz : SizeOf.sizeOf y3.1 < SizeOf.sizeOf d := by rw [hd]; simp; omega
  subst hd;obtain ⟨x, d0, d1, d2, d3, e2, hr⟩ := rep_of_trod y2.1 n _ y2.2 h2 (fits_tm_val hf);simp only [List.cons.injEq, and_true] at e2
  obtain ⟨rfl, rfl, rfl, rfl⟩ := e2
  obtain ⟨l, hl, -⟩ := slg_of_trod (fun (x : Tm) c => RepM (fun k => k < W.heap.size) W x (c 0) (c 1) (c 2) (c 3) (c 4) (c 5) (c 6)) (.mk 0 ⟨#[]⟩ (.mk 0 0 ⟨#[]⟩ []) []) Tryz.underlying32 cellsTm bytesTm (by omega) y3.1 n c6 y3.2 h3 (fits_tm_args hf)
   (fun d' fuel' cs' ps' hs h' hf' => by
    obtain ⟨x, c0, c1, c2, c3, c4, c5, c6, rfl, hr⟩ := tm_of_trod d' fuel' cs' ps' h' hf'
    exact ⟨x, at7o c0 c1 c2 c3 c4 c5 c6, fun j hj => match j, hj with
     | 0, _ => rfl | 1, _ => rfl | 2, _ => rfl | 3, _ => rfl | 4, _ => rfl | 5, _ => rfl | 6, _ => rfl, hr⟩)
  exact ⟨.mk k s x l, _, _, _, _, _, _, _, rfl, repM_mk.2 ⟨rfl, rfl, i64_wf w0, w1, hr, hl⟩⟩
 termination_by SizeOf.sizeOf d
theorem tms_of_trod (d : DataW H) (fuel : Nat) (v : Value) (ps : List MemPlace) (h : DataW.trod enc Tryz.prog W 0 (fun _ => true) true fuel 32 [v] = some (d, ps)) (hf : Fits Tryz.prog 32 d) :
  ∃ l, RepMs (fun k => k < W.heap.size) W l v := by
 obtain ⟨l, hl, -⟩ := slg_of_trod (fun (x : Tm) c => RepM (fun k => k < W.heap.size) W x (c 0) (c 1) (c 2) (c 3) (c 4) (c 5) (c 6)) (.mk 0 ⟨#[]⟩ (.mk 0 0 ⟨#[]⟩ []) []) Tryz.underlying32 cellsTm bytesTm (by omega) d fuel v ps h hf
   (fun d' fuel' cs' ps' hs h' hf' => by
    obtain ⟨x, c0, c1, c2, c3, c4, c5, c6, rfl, hr⟩ := tm_of_trod d' fuel' cs' ps' h' hf'
    exact ⟨x, at7o c0 c1 c2 c3 c4 c5 c6, fun j hj => match j, hj with
     | 0, _ => rfl | 1, _ => rfl | 2, _ => rfl | 3, _ => rfl | 4, _ => rfl | 5, _ => rfl | 6, _ => rfl, hr⟩)
 exact ⟨l, hl⟩
set_option maxRecDepth 100000 in
theorem li_of_trod (d : DataW H) (fuel : Nat) (cs : List Value) (ps : List MemPlace) (h : DataW.trod enc Tryz.prog W 0 (fun _ => true) true fuel 63 cs = some (d, ps)) (hf : Fits Tryz.prog 63 d) :
  ∃ x c0 c1 c2, cs = [c0, c1, c2] ∧ RepLi (fun k => k < W.heap.size) W x c0 c1 c2 := by
 obtain ⟨y0, y1, y2, n, hx, hlen, h0, h1, h2⟩ := trod_struct3 Tryz.underlying63 h;rw [cellsLi] at hlen
 match cs, hlen with
 | [c0, c1, c2], _ =>
  simp only [Prod.mk.injEq] at hx
  simp [cellsInt] at h0
  simp [cellsString] at h1
  simp [cellsTms] at h2
  obtain ⟨k, e0, r0, w0⟩ := DataW.trod_int Tryz.underlying3 h0;obtain ⟨s, e1, r1, w1⟩ := DataW.trod_string Tryz.underlying9 h1;simp at e0 e1
  subst e0 e1;have hd : d = .agg [y0.1, y1.1, y2.1] := by simpa using hx.1
  subst hd;obtain ⟨l, hl⟩ := tms_of_trod y2.1 n c2 y2.2 h2 (fits_li_args hf);exact ⟨⟨k, s, l⟩, _, _, _, rfl, rfl, rfl, i64_wf w0, w1, hl⟩
set_option maxRecDepth 100000 in
theorem ru_of_trod (d : DataW H) (fuel : Nat) (cs : List Value) (ps : List MemPlace) (h : DataW.trod enc Tryz.prog W 0 (fun _ => true) true fuel 61 cs = some (d, ps)) (hf : Fits Tryz.prog 61 d) :
  ∃ x c0 c1 c2 c3 c4 c5, cs = [c0, c1, c2, c3, c4, c5] ∧ RepRu (fun k => k < W.heap.size) W x c0 c1 c2 c3 c4 c5 := by
 obtain ⟨y0, y1, y2, y3, y4, y5, n, hx, hlen, h0, h1, h2, h3, h4, h5⟩ := trod_struct6 Tryz.underlying61 h;rw [cellsRu] at hlen
 match cs, hlen with
 | [c0, c1, c2, c3, c4, c5], _ =>
  simp [cellsString] at h0 h1 h3
  simp [cellsTms] at h2
  simp [cellsInt] at h4
  simp [cellsLis] at h5
  obtain ⟨s0, e0, r0, w0⟩ := DataW.trod_string Tryz.underlying9 h0;obtain ⟨s1, e1, r1, w1⟩ := DataW.trod_string Tryz.underlying9 h1;obtain ⟨s3, e3, r3, w3⟩ := DataW.trod_string Tryz.underlying9 h3;obtain ⟨k, e4, r4, w4⟩ := DataW.trod_int Tryz.underlying3 h4;simp at e0 e1 e3 e4
  subst e0 e1 e3 e4;have hd : d = .agg [y0.1, y1.1, y2.1, y3.1, y4.1, y5.1] := by simpa using hx
  subst hd;obtain ⟨l, hl⟩ := tms_of_trod y2.1 n c2 y2.2 h2 (fits_ru_args hf)
  obtain ⟨m, hm, -⟩ := slg_of_trod (fun (x : Li) c => RepLi (fun k => k < W.heap.size) W x (c 0) (c 1) (c 2)) ⟨0, ⟨#[]⟩, []⟩ Tryz.underlying59 cellsLi bytesLi (by omega) y5.1 n c5 y5.2 h5 (fits_ru_body hf)
   (fun d' fuel' cs' ps' hs h' hf' => by
    obtain ⟨x, c0, c1, c2, rfl, hr⟩ := li_of_trod d' fuel' cs' ps' h' hf'
    exact ⟨x, at7o c0 c1 c2 c2 c2 c2 c2, fun j hj => match j, hj with
     | 0, _ => rfl | 1, _ => rfl | 2, _ => rfl, hr⟩)
  exact ⟨⟨s0, s1, l, s3, k, m⟩, _, _, _, _, _, _, rfl, rfl, rfl, rfl, rfl, w0, w1, w3, i64_wf w4, hl, hm⟩
set_option maxRecDepth 100000 in
theorem de_of_trod (d : DataW H) (fuel : Nat) (cs : List Value) (ps : List MemPlace) (h : DataW.trod enc Tryz.prog W 0 (fun _ => true) true fuel 77 cs = some (d, ps)) :
  ∃ x c0 c1, cs = [c0, c1] ∧ RepDe (fun k => k < W.heap.size) W x c0 c1 := by
 obtain ⟨y0, y1, n, hx, hlen, h0, h1⟩ := trod_struct2 Tryz.underlying77 h;rw [cellsDe] at hlen
 match cs, hlen with
 | [c0, c1], _ =>
  simp [cellsString] at h0
  simp [cellsInt] at h1
  obtain ⟨s, e0, r0, w0⟩ := DataW.trod_string Tryz.underlying9 h0;obtain ⟨k, e1, r1, w1⟩ := DataW.trod_int Tryz.underlying3 h1;simp at e0 e1
  subst e0 e1;exact ⟨⟨s, k⟩, _, _, rfl, rfl, rfl, w0, i64_wf w1⟩
set_option maxRecDepth 100000 in
theorem fa_of_trod (d : DataW H) (fuel : Nat) (cs : List Value) (ps : List MemPlace) (h : DataW.trod enc Tryz.prog W 0 (fun _ => true) true fuel 68 cs = some (d, ps)) (hf : Fits Tryz.prog 68 d) :
  ∃ x c0 c1, cs = [c0, c1] ∧ RepFa (fun k => k < W.heap.size) W x c0 c1 := by
 obtain ⟨y0, y1, n, hx, hlen, h0, h1⟩ := trod_struct2 Tryz.underlying68 h;rw [cellsFa] at hlen
 match cs, hlen with
 | [c0, c1], _ =>
  simp only [Prod.mk.injEq] at hx
  simp [cellsString] at h0
  simp [cellsValues] at h1
  obtain ⟨s, e0, r0, w0⟩ := DataW.trod_string Tryz.underlying9 h0;simp at e0
  subst e0;have hd : d = .agg [y0.1, y1.1] := by simpa using hx.1
  subst hd;obtain ⟨l, hl, -⟩ := repL_of_trod y1.1 n c1 y1.2 h1 (fits_fa_args hf);exact ⟨⟨s, l⟩, _, _, rfl, rfl, w0, hl⟩
set_option maxRecDepth 100000 in
theorem pr_of_trod (d : DataW H) (fuel : Nat) (cs : List Value) (ps : List MemPlace) (h : DataW.trod enc Tryz.prog W 0 (fun _ => true) true fuel 26 cs = some (d, ps)) (hf : Fits Tryz.prog 26 d) :
  ∃ x c0 c1 c2, cs = [c0, c1, c2] ∧ RepPr (fun k => k < W.heap.size) W x c0 c1 c2 := by
 obtain ⟨y0, y1, y2, n, hx, hlen, h0, h1, h2⟩ := trod_struct3 Tryz.underlying26 h;rw [cellsPr] at hlen
 match cs, hlen with
 | [c0, c1, c2], _ =>
  simp only [Prod.mk.injEq] at hx
  simp [cellsDes] at h0
  simp [cellsFas] at h1
  simp [cellsRus] at h2
  have hd : d = .agg [y0.1, y1.1, y2.1] := by simpa using hx.1
  subst hd
  obtain ⟨l0, hl0, -⟩ := slg_of_trod (fun (x : De) c => RepDe (fun k => k < W.heap.size) W x (c 0) (c 1)) ⟨⟨#[]⟩, 0⟩ Tryz.underlying22 cellsDe bytesDe (by omega) y0.1 n c0 y0.2 h0 (fits_pr_decls hf)
   (fun d' fuel' cs' ps' hs h' hf' => by
    obtain ⟨x, c0, c1, rfl, hr⟩ := de_of_trod d' fuel' cs' ps' h'
    exact ⟨x, at7o c0 c1 c1 c1 c1 c1 c1, fun j hj => match j, hj with
     | 0, _ => rfl | 1, _ => rfl, hr⟩)
  obtain ⟨l1, hl1, -⟩ := slg_of_trod (fun (x : Fa) c => RepFa (fun k => k < W.heap.size) W x (c 0) (c 1)) ⟨⟨#[]⟩, []⟩ Tryz.underlying23 cellsFa bytesFa (by omega) y1.1 n c1 y1.2 h1 (fits_pr_facts hf)
   (fun d' fuel' cs' ps' hs h' hf' => by
    obtain ⟨x, c0, c1, rfl, hr⟩ := fa_of_trod d' fuel' cs' ps' h' hf'
    exact ⟨x, at7o c0 c1 c1 c1 c1 c1 c1, fun j hj => match j, hj with
     | 0, _ => rfl | 1, _ => rfl, hr⟩)
  obtain ⟨l2, hl2, -⟩ := slg_of_trod (fun (x : Ru) c => RepRu (fun k => k < W.heap.size) W x (c 0) (c 1) (c 2) (c 3) (c 4) (c 5)) ⟨⟨#[]⟩, ⟨#[]⟩, [], ⟨#[]⟩, 0, []⟩ Tryz.underlying24 cellsRu bytesRu (by omega) y2.1 n c2 y2.2 h2 (fits_pr_rules hf)
   (fun d' fuel' cs' ps' hs h' hf' => by
    obtain ⟨x, c0, c1, c2, c3, c4, c5, rfl, hr⟩ := ru_of_trod d' fuel' cs' ps' h' hf'
    exact ⟨x, at7o c0 c1 c2 c3 c4 c5 c5, fun j hj => match j, hj with
     | 0, _ => rfl | 1, _ => rfl | 2, _ => rfl | 3, _ => rfl | 4, _ => rfl | 5, _ => rfl, hr⟩)
  exact ⟨⟨l0, l1, l2⟩, _, _, _, rfl, hl0, hl1, hl2⟩
set_option maxRecDepth 100000 in
theorem open_program {base : Nat} {v : Value} {d : DataW H} {p : List MemPlace} (hv : Value.okWide Tryz.prog W .any base 26 v) (h : DataW.Trod enc Tryz.prog W 0 (fun _ => true) true 26 v d p) (hf : Fits Tryz.prog 26 d) :
  ∃ x c0 c1 c2, v = .agg #[c0, c1, c2] ∧ RepPr (fun k => k < W.heap.size) W x c0 c1 c2 := by
 obtain ⟨cs, rfl, hsz⟩ := okWide_struct Tryz.underlying26 hv;obtain ⟨fuel, hf'⟩ := h;obtain ⟨x, c0, c1, c2, he, hr⟩ := pr_of_trod d fuel _ p hf' hf;refine ⟨x, c0, c1, c2, ?_, hr⟩;have : cs.toList = [c0, c1, c2] := by simpa [Value.cells] using he
 congr 1
 exact Array.toList_inj.1 (by simpa using this)
set_option maxRecDepth 100000 in
theorem open_term {base : Nat} {v : Value} {d : DataW H} {p : List MemPlace} (hv : Value.okWide Tryz.prog W .any base 34 v) (h : DataW.Trod enc Tryz.prog W 0 (fun _ => true) true 34 v d p) (hf : Fits Tryz.prog 34 d) :
  ∃ x c0 c1 c2 c3 c4 c5 c6, v = .agg #[c0, c1, c2, c3, c4, c5, c6] ∧ RepM (fun k => k < W.heap.size) W x c0 c1 c2 c3 c4 c5 c6 := by
 obtain ⟨cs, rfl, hsz⟩ := okWide_struct Tryz.underlying34 hv;obtain ⟨fuel, hf'⟩ := h;obtain ⟨x, c0, c1, c2, c3, c4, c5, c6, he, hr⟩ := tm_of_trod d fuel _ p hf' hf;refine ⟨x, c0, c1, c2, c3, c4, c5, c6, ?_, hr⟩;have : cs.toList = [c0, c1, c2, c3, c4, c5, c6] := by simpa [Value.cells] using he
 congr 1
 exact Array.toList_inj.1 (by simpa using this)
end
end Go.Proofs.YtjohcnhiblfbnaaGreat
