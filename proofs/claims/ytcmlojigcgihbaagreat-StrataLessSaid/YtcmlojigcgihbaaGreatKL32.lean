/-
  OpenFour, OpenSix, CardTLess
-/
import Derived.Test.YtcmlojigcgihbaaGreatKL31
import Derived.Test.YtcmlojigcgihbaaGreatKL04
import Derived.Deep.Strs
import Derived.Laws.IdiomArrays
namespace Go.Proofs.YtcmlojigcgihbaaGreat
open Go.ChangeShapes Go.WideShapes Go.ChangeAt Go.RowKit Go.Deep Go.Joins
section
variable {H : Type} {enc : TypeId × Value → H} {W : World}
theorem fits_slice {st et : TypeId} {bytes : Nat} (hu : Tryz.prog.underlying st = some (.slice et)) (hb : Tryz.prog.bytesOf et = bytes) {elems spare : List (DataW H)} (h : Fits Tryz.prog st (.slice elems spare)) : (elems.length + spare.length) * bytes ≤ 140737488351232 ∧ ∀ d ∈ elems, Fits Tryz.prog et d := by
 simp only [Fits, DataW.weights, hu, hb] at h
 refine ⟨h _ (List.mem_cons_self), fun d hd n hn => h n (List.mem_cons_of_mem _ (List.mem_append_left _ (weightsAll_mem hd n hn)))⟩
set_option maxRecDepth 100000 in
theorem slg_of_trod {α : Type} {st et : TypeId} {n bytes : Nat} (R : α → (Nat → Value) → Prop) (x0 : α) (hu : Tryz.prog.underlying st = some (.slice et)) (hc : Tryz.prog.cellsOf et = n) (hb : Tryz.prog.bytesOf et = bytes) (hn : 0 < n)
  (d : DataW H) (fuel : Nat) (v : Value) (ps : List MemPlace) (h : DataW.trod enc Tryz.prog W 0 (fun _ => true) true fuel st [v] = some (d, ps)) (hf : Fits Tryz.prog st d)
  (hel : ∀ (d' : DataW H) (fuel' : Nat) (cs : List Value) (ps' : List MemPlace), SizeOf.sizeOf d' < SizeOf.sizeOf d → DataW.trod enc Tryz.prog W 0 (fun _ => true) true fuel' et cs = some (d', ps') → Fits Tryz.prog et d' → ∃ (x : α) (c : Nat → Value), (∀ j, j < n → cs[j]? = some (c j)) ∧ R x c) :
  ∃ l, SlG (fun k => k < W.heap.size) W n bytes R l v ∧ l.length * bytes ≤ 140737488351232 := by
 rcases open_slice hu h with ⟨hcs, hx⟩ | ⟨a, len, cap, mm, nf, D, Pl, hcs, _, hl, hm, hmm, hx, hall⟩
 ·simp only [List.cons.injEq, and_true] at hcs
  subst hcs;exact ⟨[], ⟨none, 0, 0, 0, rfl, Nat.le_refl _, by simp, fun h => by omega, fun h => by simp at h, fun i hi => by simp at hi⟩, by simp⟩
 ·simp only [List.cons.injEq, and_true] at hcs
  subst hcs;simp only [if_true] at hmm
  subst hmm;simp only [Prod.mk.injEq] at hx
  obtain ⟨hd, _⟩ := hx;rw [hc] at hall;have hfv := hf;rw [hd] at hfv;obtain ⟨hcap, hfe⟩ := fits_slice hu hb hfv
  have hcap' : mm * bytes ≤ 140737488351232 := by
   simp only [List.length_map, List.length_range] at hcap
   have : len + (mm - len) = mm := by omega
   rw [this] at hcap;exact hcap
  have hsz : ∀ i, i < len → SizeOf.sizeOf (D i) < SizeOf.sizeOf d := fun i hi => by rw [hd]; exact sizeOf_mem hi
  have hspot : 0 < mm → a.spot = none := fun h0 => by
   obtain ⟨cs', g1, g2⟩ := hall 0 h0;obtain ⟨_, hlen, hcell⟩ := World.cells?_some g1;have hc0 : cs'[0]? = some (cs'[0]'(by omega)) := List.getElem?_eq_getElem _;have := World.cell?_spot ((hcell 0 hn).trans hc0)
   simpa [Addr.add] using this
  have key : ∀ i : Nat, ∃ p : α × (Nat → Value), i < len → (∀ j, j < n → W.cell? ⟨a.block, a.off + i * n + j, none⟩ = some (p.2 j)) ∧ R p.1 p.2 := by
   intro i
   by_cases hi : i < len
   ·obtain ⟨cs', g1, g2⟩ := hall i (by omega)
    obtain ⟨x, c, hcj, hr⟩ := hel (D i) nf cs' (Pl i) (hsz i hi) g2 (hfe _ (List.mem_map_of_mem (List.mem_range.2 hi)));obtain ⟨_, hlen, hcell⟩ := World.cells?_some g1;refine ⟨(x, c), fun _ => ⟨fun j hj => ?_, hr⟩⟩;have hs := hspot (by omega);have e := (hcell j hj).trans (hcj j hj);obtain ⟨ab, ao, sp⟩ := a;simp only at hs
    subst hs;have add0 : ∀ (b o j : Nat), ((⟨b, o, none⟩ : Addr).add j) = ⟨b, o + j, none⟩ := by intro b o j; unfold Addr.add; split <;> simp_all
    rw [add0, add0] at e;exact e
   ·exact ⟨(x0, fun _ => undef), fun h => absurd h hi⟩
  obtain ⟨X, hX⟩ := Classical.axiomOfChoice key;have hby : len * bytes ≤ mm * bytes := Nat.mul_le_mul_right _ hl;refine ⟨(List.range len).map (fun i => (X i).1), ⟨some a, a.block, a.off, mm, by simp, by simpa using hl, by simp; omega, fun h0 => ?_, fun h0 => ?_, fun i hi => ?_⟩, by simp; omega⟩
  ·have := hspot h0
   obtain ⟨b, o, sp⟩ := a;simp at this
   subst this;rfl
  ·simp at h0
   obtain ⟨q, _⟩ := hX 0 (by omega);exact cell_lt (a := ⟨a.block, _, none⟩) (q 0 hn)
  ·have hi' : i < len := by simpa using hi
   obtain ⟨q, hr⟩ := hX i hi';exact ⟨_, q, by rw [List.getElem_map, List.getElem_range]; exact hr⟩
def at7o (c0 c1 c2 c3 c4 c5 c6 : Value) : Nat → Value
 | 0 => c0 | 1 => c1 | 2 => c2 | 3 => c3 | 4 => c4 | 5 => c5 | _ => c6
end
end Go.Proofs.YtcmlojigcgihbaaGreat
namespace Go.Proofs.YtcmlojigcgihbaaGreat
open Go.ChangeShapes Go.WideShapes Go.ChangeAt Go.RowKit Go.Deep Go.Joins
theorem cellsRw : Tryz.prog.cellsOf 64 = 6 := by kernel_rfl
theorem bytesRw : Tryz.prog.bytesOf 64 = 48 := by kernel_rfl
theorem cellsRws : Tryz.prog.cellsOf 57 = 1 := by kernel_rfl
theorem bytesRws : Tryz.prog.bytesOf 57 = 24 := by kernel_rfl
theorem cellsN4 : Tryz.prog.cellsOf 62 = 4 := by kernel_rfl
section
variable {H : Type} {enc : TypeId × Value → H} {W : World}
set_option maxRecDepth 100000 in
theorem rw_of_trod (d : DataW H) (fuel : Nat) (cs : List Value) (ps : List MemPlace) (h : DataW.trod enc Tryz.prog W 0 (fun _ => true) true fuel 64 cs = some (d, ps)) :
  ∃ (x : Rw) (c : Nat → Value), (∀ j, j < 6 → cs[j]? = some (c j)) ∧ RepRw (fun k => k < W.heap.size) W x c := by
 obtain ⟨y0, y1, y2, n, hx, hlen, h0, h1, h2⟩ := trod_struct3 Tryz.underlying64 h;rw [cellsRw] at hlen
 match cs, hlen with
 | [c0, c1, c2, c3, c4, c5], _ =>
  simp [cellsInt] at h0
  simp [cellsInt] at h1
  simp [cellsN4] at h2
  obtain ⟨k, e0, r0, w0⟩ := DataW.trod_int Tryz.underlying3 h0;obtain ⟨s, e1, r1, w1⟩ := DataW.trod_int Tryz.underlying3 h1;obtain ⟨z0, z1, z2, z3, n', hx', q0, q1, q2, q3⟩ := trod_array4 Tryz.underlying62 cellsInt h2;obtain ⟨n0, f0, r2, w2⟩ := DataW.trod_int Tryz.underlying3 q0;obtain ⟨n1, f1, r3, w3⟩ := DataW.trod_int Tryz.underlying3 q1;obtain ⟨n2, f2, r4, w4⟩ := DataW.trod_int Tryz.underlying3 q2;obtain ⟨n3, f3, r5, w5⟩ := DataW.trod_int Tryz.underlying3 q3;simp at e0 e1 f0 f1 f2 f3
  subst e0 e1 f0 f1 f2 f3
  exact ⟨⟨k, s, n0, n1, n2, n3⟩, at7o (.int .i64 k) (.int .i64 s) (.int .i64 n0) (.int .i64 n1) (.int .i64 n2) (.int .i64 n3) (.int .i64 n3), fun j hj => match j, hj with
   | 0, _ => rfl | 1, _ => rfl | 2, _ => rfl | 3, _ => rfl | 4, _ => rfl | 5, _ => rfl, rfl, rfl, rfl, rfl, rfl, rfl, i64_wf w0, i64_wf w1, i64_wf w2, i64_wf w3, i64_wf w4, i64_wf w5⟩
theorem rws_of_trod (d : DataW H) (fuel : Nat) (v : Value) (ps : List MemPlace) (h : DataW.trod enc Tryz.prog W 0 (fun _ => true) true fuel 57 [v] = some (d, ps)) (hf : Fits Tryz.prog 57 d) :
  ∃ l, RepRws (fun k => k < W.heap.size) W l v := by
 obtain ⟨l, hl, -⟩ := slg_of_trod (RepRw (fun k => k < W.heap.size) W) ⟨0, 0, 0, 0, 0, 0⟩ Tryz.underlying57 cellsRw bytesRw (by omega) d fuel v ps h hf
  (fun d' fuel' cs' ps' _ h' _ => rw_of_trod d' fuel' cs' ps' h')
 exact ⟨l, hl⟩
set_option maxRecDepth 100000 in
theorem open_rwss {base : Nat} {v : Value} {d : DataW H} {p : List MemPlace} (hv : Value.okWide Tryz.prog W .any base 22 v) (h : DataW.Trod enc Tryz.prog W 0 (fun _ => true) true 22 v d p) (hf : Fits Tryz.prog 22 d) :
  ∃ l, RepRwss (fun k => k < W.heap.size) W l v := by
 obtain ⟨a0, len, cap, rfl⟩ := okWide_slice Tryz.underlying22 hv;obtain ⟨fuel, hf'⟩ := h
 obtain ⟨l, hl, -⟩ := slg_of_trod (fun x c => RepRws (fun k => k < W.heap.size) W x (c 0)) [] Tryz.underlying22 cellsRws bytesRws (by omega) d fuel _ p (by simpa [Value.cells] using hf') hf
  (fun d' fuel' cs' ps' hs h' hf'' => by
   have hlen : cs'.length = 1 := by
    rcases open_slice Tryz.underlying57 h' with ⟨hcs, -⟩ | ⟨a, len, cap, mm, nf, D, Pl, hcs, -⟩ <;> rw [hcs] <;> rfl
   match cs', hlen with
   | [c], _ =>
    obtain ⟨l, hl⟩ := rws_of_trod d' fuel' c ps' h' hf''
    exact ⟨l, fun _ => c, fun j hj => match j, hj with
     | 0, _ => rfl, hl⟩)
 exact ⟨l, hl⟩
end
end Go.Proofs.YtcmlojigcgihbaaGreat
namespace Go.Proofs.YtcmlojigcgihbaaGreat.strataLess
open Go.ChangeShapes Go.WideShapes Go.ChangeAt Go.RowKit
open Go.ChangeMaps (open_string)
set_option maxRecDepth 100000 in
theorem contract (H : Type) (enc : TypeId × Value → H) (W : World) (base : Nat) (args : Array Value) (ds gs : List (DataW H)) (before : List MemPlace)
  (hval : ∀ (j : Nat) t v, Tryz.f6.params[j]? = some t → args[j]? = some v → Value.okWide Tryz.prog W .any base t v)
  (hW : DataW.Whole enc Tryz.prog Tryz.f6.params.toList Rows.strataLessSpec.vars false W args.toList ds gs before)
  (hz : (DataW.weightsEach Tryz.prog (Tryz.f6.params.toList ++ []) (ds ++ gs)).all (· ≤ reachBytes) = true) (_hL : laidMet Tryz.prog Rows.strataLessRow.laid W) :
  Calls Tryz.prog 6 args W fun e W' => ∃ v, e = .returned v ∧ Rows.strataLessSpec.post enc Tryz.prog Tryz.f6 false true false false W args v W' := by
 have hW' := hW;obtain ⟨p, q, hA0, hV, rfl, hfz, hnd⟩ := hW;have hA : DataW.TrodAll enc Tryz.prog W 0 (fun _ => true) true Tryz.f6.params.toList args.toList ds p := hA0;clear hA0;rw [Tryz.params6] at hA hval hz;obtain ⟨v0, vs0, d0, ds0, p0, q0, hargs, rfl, rfl, h0, r0⟩ := trodAll_cons hA;obtain ⟨v1, vs1, d1, ds1, p1, q1, rfl, rfl, rfl, h1, r1⟩ := trodAll_cons r0;obtain ⟨rfl, rfl, rfl⟩ := trodAll_nil r1;obtain rfl : args = #[v0, v1] := by cases args; simp_all
 obtain ⟨rfl, rfl⟩ := trodVars_none hV;have z0 : (DataW.weightsEach Tryz.prog [22, 3] [d0, d1]).all (· ≤ reachBytes) = true := by simpa using hz
 obtain ⟨f0, z1⟩ := fits_cons z0;obtain ⟨f1, z2⟩ := fits_cons z1;obtain ⟨x0, g0⟩ := open_rwss (hval 0 22 v0 rfl rfl) h0 f0;obtain ⟨x1, rfl, rfl, rfl, g1⟩ := open_int Tryz.underlying3 (hval 1 3 v1 rfl rfl) h1
 -- USE: walk DATA W CELLS htab FACTS
 refine (walk x0 x1 W v0 g0 (i64_wf g1)).mono fun e W' ⟨he, hb⟩ => ⟨_, he, law_post rfl (by kernel_rfl) (fun t ht => ?_) hW' rfl hb⟩
 rw [Tryz.params6] at ht;have ht' : t = 22 ∨ t = 3 := by simpa using ht
 rcases ht' with rfl | rfl <;> exact ⟨by kernel_rfl, of_decide_eq_true (by kernel_rfl)⟩
set_option maxRecDepth 100000 in
theorem laid_met (os : Os) : laidMet Tryz.prog Rows.strataLessRow.laid ((plainWorld os).forCall (fun _ _ => 0) ⟨#[], #[.slice none 0 0, .int .i64 0], []⟩).memory :=
 laidMet_of_run' 8 (by kernel_rfl) (by kernel_rfl)
set_option maxRecDepth 100000 in
theorem reads (os : Os) {H : Type} (enc : TypeId × Value → H) : ∃ places, DataW.whole enc Tryz.prog ((plainWorld os).forCall (fun _ _ => 0) ⟨#[], #[.slice none 0 0, .int .i64 0], []⟩).memory Tryz.f6.params.toList Rows.strataLessSpec.vars false (#[.slice none 0 0, .int .i64 0] : Array Value).toList 8 = some ([.nil, .lit (.int .i64 0)], [], places) :=
 ⟨[], by kernel_rfl⟩
set_option maxRecDepth 100000 in
theorem lifted (os : Os) (started : os.Started) (H : Type) (enc : TypeId × Value → H) (F : Stop.Interp) :
  ReturnsInHanded {} Tryz.checked os 6 .any ((OpenSpec.ofChange Rows.strataLessSpec).preRow enc Tryz.prog Tryz.f6 Rows.strataLessRow.domain false Rows.strataLessRow.laid) (((OpenSpec.ofChange Rows.strataLessSpec).at F).post enc Tryz.prog Tryz.f6 false true false false) := by
 obtain ⟨places, hx⟩ := reads os enc
 refine returnsInHanded_of_row (C := Tryz.checked) (s := OpenSpec.ofChange Rows.strataLessSpec) own started (by kernel_rfl) Tryz.func6
  (witness_row_at (enc := enc) (C := Tryz.checked) false (plainWorld os) #[.slice none 0 0, .int .i64 0] rfl (by kernel_rfl) (by kernel_rfl) (by kernel_rfl)
   (OpenSpec.preRow_of_cond 8 hx (by kernel_rfl) (fun k hk => by cases hk) (by kernel_rfl) (laid_met os))) ?_
 intro W base args ds gs before hval hW _ _ hz hL _ _;exact contract H enc W base args ds gs before hval hW hz hL
set_option maxRecDepth 100000 in
theorem said : Rows.StrataLessSaid :=
 OpenClaim.holds_of_cond 6 Tryz.f6 rfl rfl rfl rfl rfl rfl rfl ⟨rfl, rfl, rfl, rfl, rfl⟩ rfl rfl rfl rfl rfl (by kernel_rfl) Tryz.func6 (by kernel_rfl)
  (of_decide_eq_true (by kernel_rfl)) (by unfold Func.isWrapper; first | (rw [if_pos (by decide +kernel)]; kernel_rfl) | (rw [if_neg (by decide +kernel)]; exact ⟨rfl, rfl⟩))
  (fun os started H enc _ F => by rw [OpenClaim.pre_eq_preRow]; exact lifted os started H enc F)
theorem holds : Rows.StrataLessSaid := said
#print axioms holds
end Go.Proofs.YtcmlojigcgihbaaGreat.strataLess
