/-
  OpenSix, CardLNames
-/
import Derived.Test.YtjohcnhiblfbnaaGreatDoorQ29
import Derived.Test.YtjohcnhiblfbnaaGreatDoorQ05
import Derived.Test.YtjohcnhiblfbnaaGreatDoorQ31
import Derived.Laws.IdiomArrays
namespace Go.Proofs.YtjohcnhiblfbnaaGreatDoor
open Go.ChangeShapes Go.WideShapes Go.ChangeAt Go.RowKit Go.Deep Go.Joins
theorem cellsRw : Tryz.prog.cellsOf 74 = 6 := by kernel_rfl
theorem bytesRw : Tryz.prog.bytesOf 74 = 48 := by kernel_rfl
theorem cellsN4 : Tryz.prog.cellsOf 72 = 4 := by kernel_rfl
section
variable {H : Type} {enc : TypeId × Value → H} {W : World}
set_option maxRecDepth 100000 in
theorem rw_of_trod (d : DataW H) (fuel : Nat) (cs : List Value) (ps : List MemPlace) (h : DataW.trod enc Tryz.prog W 0 (fun _ => true) true fuel 74 cs = some (d, ps)) :
  ∃ (x : Rw) (c : Nat → Value), (∀ j, j < 6 → cs[j]? = some (c j)) ∧ RepRw (fun k => k < W.heap.size) W x c := by
 obtain ⟨y0, y1, y2, n, hx, hlen, h0, h1, h2⟩ := trod_struct3 Tryz.underlying74 h
 rw [cellsRw] at hlen
 match cs, hlen with
 | [c0, c1, c2, c3, c4, c5], _ =>
  simp [cellsInt] at h0
  simp [cellsInt] at h1
  simp [cellsN4] at h2
  obtain ⟨k, e0, r0, w0⟩ := DataW.trod_int Tryz.underlying3 h0
  obtain ⟨s, e1, r1, w1⟩ := DataW.trod_int Tryz.underlying3 h1
  obtain ⟨z0, z1, z2, z3, n', hx', q0, q1, q2, q3⟩ := trod_array4 Tryz.underlying72 cellsInt h2
  obtain ⟨n0, f0, r2, w2⟩ := DataW.trod_int Tryz.underlying3 q0
  obtain ⟨n1, f1, r3, w3⟩ := DataW.trod_int Tryz.underlying3 q1
  obtain ⟨n2, f2, r4, w4⟩ := DataW.trod_int Tryz.underlying3 q2
  obtain ⟨n3, f3, r5, w5⟩ := DataW.trod_int Tryz.underlying3 q3
  simp at e0 e1 f0 f1 f2 f3
  subst e0 e1 f0 f1 f2 f3
  exact ⟨⟨k, s, n0, n1, n2, n3⟩, at7o (.int .i64 k) (.int .i64 s) (.int .i64 n0) (.int .i64 n1) (.int .i64 n2) (.int .i64 n3) (.int .i64 n3), fun j hj => match j, hj with
   | 0, _ => rfl | 1, _ => rfl | 2, _ => rfl | 3, _ => rfl | 4, _ => rfl | 5, _ => rfl, rfl, rfl, rfl, rfl, rfl, rfl, i64_wf w0, i64_wf w1, i64_wf w2, i64_wf w3, i64_wf w4, i64_wf w5⟩
theorem rws_of_trod (d : DataW H) (fuel : Nat) (v : Value) (ps : List MemPlace) (h : DataW.trod enc Tryz.prog W 0 (fun _ => true) true fuel 28 [v] = some (d, ps)) (hf : Fits Tryz.prog 28 d) :
  ∃ l, RepRws (fun k => k < W.heap.size) W l v := by
 obtain ⟨l, hl, -⟩ := slg_of_trod (RepRw (fun k => k < W.heap.size) W) ⟨0, 0, 0, 0, 0, 0⟩ Tryz.underlying28 cellsRw bytesRw (by omega) d fuel v ps h hf
  (fun d' fuel' cs' ps' _ h' _ => rw_of_trod d' fuel' cs' ps' h')
 exact ⟨l, hl⟩
set_option maxRecDepth 100000 in
theorem open_rws {base : Nat} {v : Value} {d : DataW H} {p : List MemPlace} (hv : Value.okWide Tryz.prog W .any base 28 v) (h : DataW.Trod enc Tryz.prog W 0 (fun _ => true) true 28 v d p) (hf : Fits Tryz.prog 28 d) :
  ∃ l, RepRws (fun k => k < W.heap.size) W l v := by
 obtain ⟨a0, len, cap, rfl⟩ := okWide_slice Tryz.underlying28 hv
 obtain ⟨fuel, hf'⟩ := h
 exact rws_of_trod d fuel _ p (by simpa [Value.cells] using hf') hf
end
end Go.Proofs.YtjohcnhiblfbnaaGreatDoor
namespace Go.Proofs.YtjohcnhiblfbnaaGreatDoor.locateNames
open Go.ChangeShapes Go.WideShapes Go.ChangeAt Go.RowKit
open Go.ChangeMaps (open_string)
set_option maxRecDepth 100000 in
theorem contract (H : Type) (enc : TypeId × Value → H) (W : World) (base : Nat) (args : Array Value) (ds gs : List (DataW H)) (before : List MemPlace)
  (hval : ∀ (j : Nat) t v, Tryz.f7.params[j]? = some t → args[j]? = some v → Value.okWide Tryz.prog W .any base t v)
  (hW : DataW.Whole enc Tryz.prog Tryz.f7.params.toList Rows.locateNamesSpec.vars false W args.toList ds gs before)
  (hz : (DataW.weightsEach Tryz.prog (Tryz.f7.params.toList ++ []) (ds ++ gs)).all (· ≤ reachBytes) = true) (hL : laidMet Tryz.prog Rows.locateNamesRow.laid W) :
  Calls Tryz.prog 7 args W fun e W' => ∃ v, e = .returned v ∧ Rows.locateNamesSpec.post enc Tryz.prog Tryz.f7 false true false false W args v W' := by
 have hW' := hW
 obtain ⟨p, q, hA0, hV, rfl, hfz, hnd⟩ := hW
 have hA : DataW.TrodAll enc Tryz.prog W 0 (fun _ => true) true Tryz.f7.params.toList args.toList ds p := hA0
 clear hA0
 rw [Tryz.params7] at hA hval hz
 obtain ⟨v0, vs0, d0, ds0, p0, q0, hargs, rfl, rfl, h0, r0⟩ := trodAll_cons hA
 obtain ⟨rfl, rfl, rfl⟩ := trodAll_nil r0
 obtain rfl : args = #[v0] := by cases args; simp_all
 obtain ⟨rfl, rfl⟩ := trodVars_none hV
 have htab : TabOk W := tabOk_of_laid hL (by simp [Rows.locateNamesRow])
 have z0 : (DataW.weightsEach Tryz.prog [28] [d0]).all (· ≤ reachBytes) = true := by simpa using hz
 obtain ⟨f0, z1⟩ := fits_cons z0
 obtain ⟨x0, g0⟩ := open_rws (hval 0 28 v0 rfl rfl) h0 f0
 -- USE: walk DATA W CELLS htab FACTS
 refine (walk x0 W v0 htab g0).mono fun e W' ⟨he, hb⟩ => ⟨_, he, law_post rfl (by kernel_rfl) (fun t ht => ?_) hW' rfl hb⟩
 rw [Tryz.params7] at ht
 have ht' : t = 28 := by simpa using ht
 rcases ht' with rfl <;> exact ⟨by kernel_rfl, of_decide_eq_true (by kernel_rfl)⟩
set_option maxRecDepth 100000 in
theorem laid_met (os : Os) : laidMet Tryz.prog Rows.locateNamesRow.laid ((laidWorld os).forCall (fun _ _ => 0) ⟨#[], #[.slice none 0 0], []⟩).memory :=
 laidMet_of_run' 8 (by kernel_rfl) (by kernel_rfl)
set_option maxRecDepth 100000 in
theorem reads (os : Os) {H : Type} (enc : TypeId × Value → H) : ∃ places, DataW.whole enc Tryz.prog ((laidWorld os).forCall (fun _ _ => 0) ⟨#[], #[.slice none 0 0], []⟩).memory Tryz.f7.params.toList Rows.locateNamesSpec.vars false (#[.slice none 0 0] : Array Value).toList 8 = some ([.nil], [], places) :=
 ⟨[], by kernel_rfl⟩
set_option maxRecDepth 100000 in
theorem lifted (os : Os) (started : os.Started) (H : Type) (enc : TypeId × Value → H) (F : Stop.Interp) :
  ReturnsInHanded {} Tryz.checked os 7 .any ((OpenSpec.ofChange Rows.locateNamesSpec).preRow enc Tryz.prog Tryz.f7 Rows.locateNamesRow.domain false Rows.locateNamesRow.laid) (((OpenSpec.ofChange Rows.locateNamesSpec).at F).post enc Tryz.prog Tryz.f7 false true false false) := by
 obtain ⟨places, hx⟩ := reads os enc
 refine returnsInHanded_of_row (C := Tryz.checked) (s := OpenSpec.ofChange Rows.locateNamesSpec) own started (by kernel_rfl) Tryz.func7
  (witness_row_at (enc := enc) (C := Tryz.checked) false (laidWorld os) #[.slice none 0 0] rfl (by kernel_rfl) (by kernel_rfl) (by kernel_rfl)
   (OpenSpec.preRow_of_cond 8 hx (by kernel_rfl) (fun k hk => by cases hk) (by kernel_rfl) (laid_met os))) ?_
 intro W base args ds gs before hval hW _ _ hz hL _ _
 exact contract H enc W base args ds gs before hval hW hz hL
set_option maxRecDepth 100000 in
theorem said : Rows.LocateNamesSaid :=
 OpenClaim.holds_of_cond 7 Tryz.f7 rfl rfl rfl rfl rfl rfl rfl ⟨rfl, rfl, rfl, rfl, rfl⟩ rfl rfl rfl rfl rfl (by kernel_rfl) Tryz.func7 (by kernel_rfl)
  (of_decide_eq_true (by kernel_rfl)) (by unfold Func.isWrapper; first | (rw [if_pos (by decide +kernel)]; kernel_rfl) | (rw [if_neg (by decide +kernel)]; exact ⟨rfl, rfl⟩))
  (fun os started H enc _ F => by rw [OpenClaim.pre_eq_preRow]; exact lifted os started H enc F)
set_option maxRecDepth 100000 in
theorem plain (f : FuncId) (fn : Func) (hf : Tryz.pinned.checked.prog.funcNamed "beaconry/beaconrylaw07.LocateNames" = some f) (hfn : Tryz.pinned.checked.prog.funcs[f]? = some fn) :
  false = Tryz.pinned.checked.prog.looks [] ∧ ∀ (j : Nat) t, fn.params[j]? = some t → Tryz.pinned.checked.prog.wantsStandIn t = false := by
 obtain rfl : f = 7 := Option.some.inj ((show Tryz.prog.funcNamed "beaconry/beaconrylaw07.LocateNames" = some 7 by kernel_rfl).symm.trans hf) |>.symm
 obtain rfl : fn = Tryz.f7 := (Option.some.inj (Tryz.func7.symm.trans hfn)).symm
 refine ⟨by kernel_rfl, fun j t ht => ?_⟩
 rw [Tryz.params7] at ht
 have ht' : t = 28 := by simpa using Array.mem_of_getElem? ht
 rcases ht' with rfl
 ·exact (show Tryz.prog.wantsStandIn 28 = false by kernel_rfl)
set_option maxRecDepth 100000 in
theorem holds : Rows.LocateNamesCardSaid :=
 Claim7.holds_tied_plain_at .later [] _ _ _ _ said (fun _ h => by cases h) (by kernel_rfl) (fun _ h => by cases h) locateNames_row_tie rfl ⟨rfl, rfl⟩ (by kernel_rfl) rfl plain (by kernel_rfl)
#print axioms holds
end Go.Proofs.YtjohcnhiblfbnaaGreatDoor.locateNames
