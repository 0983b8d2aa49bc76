/-
  Open, LawPost, OpenTm, OpenNine, CardBVars
-/
import Derived.Test.YtbkligcfllakeaaKE01
import Derived.Test.YtbkligcfllakeaaRows
import Derived.Test.YtbkligcfllakeaaKE08
import Derived.Test.YtbkligcfllakeaaKE20
import Derived.ProofKit
import Derived.Lib.SmallJoins
import Derived.Deep.Slices
import Derived.OpenShut
import Derived.Deep.DeepHandedRow
import Derived.Deep.Strs
namespace Go.Proofs.Ytbkligcfllakeaa
open Go.ChangeShapes Go.WideShapes Go.ChangeAt Go.RowKit Go.Deep Go.Joins
theorem cellsValue : Try.prog.cellsOf 27 = 4 := by kernel_rfl
theorem bytesValue : Try.prog.bytesOf 27 = 56 := by kernel_rfl
theorem cellsInt : Try.prog.cellsOf 3 = 1 := by kernel_rfl
theorem cellsString : Try.prog.cellsOf 9 = 1 := by kernel_rfl
theorem cellsValues : Try.prog.cellsOf 22 = 1 := by kernel_rfl
theorem i64_wf {n : Int} (h : (Lit.int .i64 n).wf = true) : I64 n := bounds_i64 h
section
variable {H : Type} {enc : TypeId × Value → H} {W : World}
theorem weightsAll_mem {P : Program} {e : TypeId} {ds : List (DataW H)} {d : DataW H} (h : d ∈ ds) (n : Nat) (hn : n ∈ d.weights P e) : n ∈ DataW.weightsAll P e ds := by
 induction ds with
 | nil => cases h
 | cons x r ih =>
  rw [DataW.weightsAll, List.mem_append];rcases List.mem_cons.1 h with rfl | h
  ·exact Or.inl hn
  ·exact Or.inr (ih h)
def Fits (P : Program) (t : TypeId) (d : DataW H) : Prop := ∀ n ∈ d.weights P t, n ≤ reachBytes
theorem fits_value {a b c e : DataW H} (h : Fits Try.prog 27 (.agg [a, b, c, e])) : Fits Try.prog 22 e := fun n hn => h n (by
 simp only [DataW.weights, Try.underlying27, List.map_cons, List.map_nil, DataW.weightsEach, List.mem_append]
 exact Or.inr (Or.inr (Or.inr (Or.inl hn))))
theorem fits_values {elems spare : List (DataW H)} (h : Fits Try.prog 22 (.slice elems spare)) : (elems.length + spare.length) * 56 ≤ 140737488351232 ∧ ∀ d ∈ elems, Fits Try.prog 27 d := by
 simp only [Fits, DataW.weights, Try.underlying22, bytesValue] at h
 refine ⟨h _ (List.mem_cons_self), fun d hd n hn => h n (List.mem_cons_of_mem _ (List.mem_append_left _ (weightsAll_mem hd n hn)))⟩
theorem cell_lt {w : World} {a : Addr} {v : Value} (h : w.cell? a = some v) : a.block < w.heap.size := by
 by_cases hlt : a.block < w.heap.size
 ·exact hlt
 ·have hn : w.heap[a.block]? = none := by simp; omega
  simp [World.cell?, hn] at h
theorem cells4 {w : World} {a : Addr} {cs : List Value} (h : w.cells? 0 a 4 = some cs) : ∃ c0 c1 c2 c3, cs = [c0, c1, c2, c3] ∧ a.spot = none ∧ w.cell? ⟨a.block, a.off, none⟩ = some c0 ∧ w.cell? ⟨a.block, a.off + 1, none⟩ = some c1 ∧ w.cell? ⟨a.block, a.off + 2, none⟩ = some c2 ∧ w.cell? ⟨a.block, a.off + 3, none⟩ = some c3 := by
 obtain ⟨_, hlen, hcell⟩ := World.cells?_some h;obtain ⟨b, o, sp⟩ := a
 match cs, hlen with
 | [c0, c1, c2, c3], _ =>
  have hsp : sp = none := by simpa [Addr.add] using World.cell?_spot (hcell 0 (by omega))
  subst hsp;exact ⟨c0, c1, c2, c3, rfl, rfl, by simpa [Addr.add] using hcell 0 (by omega), by simpa [Addr.add] using hcell 1 (by omega), by simpa [Addr.add] using hcell 2 (by omega), by simpa [Addr.add] using hcell 3 (by omega)⟩
theorem add_block (a : Addr) (n : Nat) : (a.add n).block = a.block := by unfold Addr.add; split <;> simp_all
theorem add_off (a : Addr) (n : Nat) : (a.add n).off = a.off + n := by unfold Addr.add; split <;> simp_all
theorem sizeOf_mem {D : Nat → DataW H} {len i : Nat} (h : i < len) {sp : List (DataW H)} : SizeOf.sizeOf (D i) < SizeOf.sizeOf (DataW.slice ((List.range len).map D) sp) := by
 have := List.sizeOf_lt_of_mem (List.mem_map_of_mem (f := D) (List.mem_range.2 h));simp only [DataW.slice.sizeOf_spec]
 omega
set_option maxRecDepth 100000 in
mutual
theorem rep_of_trod (d : DataW H) (fuel : Nat) (cs : List Value) (ps : List MemPlace) (h : DataW.trod enc Try.prog W 0 (fun _ => true) true fuel 27 cs = some (d, ps)) (hf : Fits Try.prog 27 d) :
  ∃ x c0 c1 c2 c3, cs = [c0, c1, c2, c3] ∧ RepV W.heap.size W x c0 c1 c2 c3 := by
 obtain ⟨y0, y1, y2, y3, n, hx, hlen, h0, h1, h2, h3⟩ := trod_struct4 Try.underlying27 h;rw [cellsValue] at hlen
 match cs, hlen with
 | [c0, c1, c2, c3], _ =>
  simp only [Prod.mk.injEq] at hx
  simp [cellsInt] at h0 h1
  simp [cellsString] at h2
  simp [cellsValues] at h3
  obtain ⟨k, e0, r0, w0⟩ := DataW.trod_int Try.underlying3 h0;obtain ⟨m, e1, r1, w1⟩ := DataW.trod_int Try.underlying3 h1;obtain ⟨s, e2, r2, w2⟩ := DataW.trod_string Try.underlying9 h2;simp at e0 e1 e2
  subst e0 e1 e2;have hd : d = .agg [y0.1, y1.1, y2.1, y3.1] := by simpa using hx.1
  have hsz : SizeOf.sizeOf y3.1 < SizeOf.sizeOf d := by rw [hd]; simp; omega
  subst hd;obtain ⟨l, hl, -⟩ := repL_of_trod y3.1 n c3 y3.2 h3 (fits_value hf);exact ⟨.mk k m s l, _, _, _, _, rfl, repV_mk.2 ⟨rfl, rfl, rfl, i64_wf w0, i64_wf w1, w2, hl⟩⟩
 termination_by SizeOf.sizeOf d
theorem repL_of_trod (d : DataW H) (fuel : Nat) (v : Value) (ps : List MemPlace) (h : DataW.trod enc Try.prog W 0 (fun _ => true) true fuel 22 [v] = some (d, ps)) (hf : Fits Try.prog 22 d) :
  ∃ l, RepL W.heap.size W l v ∧ l.length * 56 ≤ 140737488351232 := by
 rcases open_slice Try.underlying22 h with ⟨hc, hx⟩ | ⟨a, len, cap, mm, n, D, Pl, hc, _, hl, hm, hmm, hx, hall⟩
 ·simp only [List.cons.injEq, and_true] at hc
  subst hc;exact ⟨[], ⟨none, 0, 0, 0, rfl, Nat.le_refl _, by simp, fun h => by omega, fun h => by simp at h, fun i hi => by simp at hi⟩, by simp⟩
 ·simp only [List.cons.injEq, and_true] at hc
  subst hc;simp only [if_true] at hmm
  subst hmm;simp only [Prod.mk.injEq] at hx
  obtain ⟨hd, _⟩ := hx;rw [cellsValue] at hall;have hfv := hf;rw [hd] at hfv;obtain ⟨hcap, hfe⟩ := fits_values hfv
  have hcap' : mm * 56 ≤ 140737488351232 := by
   simp only [List.length_map, List.length_range] at hcap
   have : len + (mm - len) = mm := by omega
   rw [this] at hcap;exact hcap
  have hsz : ∀ i, i < len → SizeOf.sizeOf (D i) < SizeOf.sizeOf d := fun i hi => by rw [hd]; exact sizeOf_mem hi
  have key : ∀ i : Nat, ∃ x : V, i < len → ∃ c0 c1 c2 c3, W.cell? ⟨a.block, a.off + i * 4, none⟩ = some c0 ∧ W.cell? ⟨a.block, a.off + i * 4 + 1, none⟩ = some c1 ∧ W.cell? ⟨a.block, a.off + i * 4 + 2, none⟩ = some c2 ∧ W.cell? ⟨a.block, a.off + i * 4 + 3, none⟩ = some c3 ∧ RepV W.heap.size W x c0 c1 c2 c3 := by
   intro i
   by_cases hi : i < len
   ·obtain ⟨cs', g1, g2⟩ := hall i (by omega)
    have := hsz i hi;obtain ⟨x, c0, c1, c2, c3, rfl, hr⟩ := rep_of_trod (D i) n cs' (Pl i) g2 (hfe _ (List.mem_map_of_mem (List.mem_range.2 hi)));obtain ⟨d0, d1, d2, d3, he, hsp, q0, q1, q2, q3⟩ := cells4 g1;simp only [List.cons.injEq, and_true] at he
    obtain ⟨rfl, rfl, rfl, rfl⟩ := he;rw [add_block, add_off] at q0 q1 q2 q3;exact ⟨x, fun _ => ⟨_, _, _, _, q0, q1, q2, q3, hr⟩⟩
   ·exact ⟨.mk 0 0 ⟨#[]⟩ [], fun h => absurd h hi⟩
  obtain ⟨X, hX⟩ := Classical.axiomOfChoice key
  have hspot : 0 < mm → a.spot = none := fun h0 => by
   obtain ⟨cs', g1, g2⟩ := hall 0 h0;obtain ⟨d0, d1, d2, d3, he, hsp, _⟩ := cells4 g1
   simpa [Addr.add] using hsp
  refine ⟨(List.range len).map X, ⟨some a, a.block, a.off, mm, by simp, by simpa using hl, by simp; omega, fun h0 => ?_, fun h0 => ?_, fun i hi => ?_⟩, by simp; omega⟩
  ·have := hspot h0
   obtain ⟨b, o, sp⟩ := a;simp at this
   subst this;rfl
  ·simp at h0
   obtain ⟨c0, _, _, _, q, _⟩ := hX 0 (by omega);exact cell_lt (a := ⟨a.block, _, none⟩) q
  ·have hi' : i < len := by simpa using hi
   obtain ⟨c0, c1, c2, c3, q0, q1, q2, q3, hr⟩ := hX i hi';exact ⟨c0, c1, c2, c3, q0, q1, q2, q3, by rw [List.getElem_map, List.getElem_range]; exact hr⟩
 termination_by SizeOf.sizeOf d
end
end
end Go.Proofs.Ytbkligcfllakeaa
namespace Go.Proofs.Ytbkligcfllakeaa
open Go.ChangeShapes Go.WideShapes Go.ChangeAt Go.RowKit
theorem own : ownKnob Try.prog.godebug = none := by kernel_rfl
theorem laidOut : laidOutB Try.prog = true := by kernel_rfl
noncomputable def plainWorld (os : Os) : World := World.holding Try.prog os ⟨#[], #[], []⟩
section
variable {H : Type} {enc : TypeId × Value → H}
theorem trodAll_below {W W' : World} (hb : Below W.heap.size W W') : ∀ (ts : List TypeId) (vs : List Value) (ds : List (DataW H)) (ps : List MemPlace), DataW.TrodAll enc Try.prog W 0 (fun _ => true) true ts vs ds ps →
  (∀ t ∈ ts, Try.prog.readableRec t = true ∧ t < Try.prog.types.size) → (∀ x ∈ ps, x.block < W.heap.size) → DataW.TrodAll enc Try.prog W' 0 (fun b => decide (b < W.heap.size)) true ts vs ds ps
 | [], [], [], ps, h, _, _ => h
 | t :: ts, v :: vs, d :: ds, ps, h, ht, hp => by
  obtain ⟨p, q, h1, h2, rfl⟩ := h;obtain ⟨r1, r2⟩ := ht t (by simp);exact ⟨p, q, Below.trod laidOut r1 r2 h1 hb (fun x hx => hp x (by simp [hx])), trodAll_below hb ts vs ds q h2 (fun t' h' => ht t' (by simp [h'])) (fun x hx => hp x (by simp [hx])), rfl⟩
 | [], _ :: _, _, _, h, _, _ => by cases h
 | _ :: _, [], _, _, h, _, _ => by cases h
 | [], [], _ :: _, _, h, _, _ => by cases h
 | _ :: _, _ :: _, [], _, h, _, _ => by cases h
theorem law_post {fn : Func} {s : ChangeSpec} {W W' : World} {args : Array Value} {ds gs : List (DataW H)} {before : List MemPlace}
  (hvars : s.vars = []) (hres : fn.resultTypes = #[4]) (hread : ∀ t ∈ fn.params.toList, Try.prog.readableRec t = true ∧ t < Try.prog.types.size)
  (hW : DataW.Whole enc Try.prog fn.params.toList s.vars false W args.toList ds gs before)
  (hs : s.fn H (ds ++ gs) = { results := [.lit (.bool true)], args := ds })
  (hb : Below W.heap.size W W') : s.post enc Try.prog fn false true false false W args (.bool true) W' := by
 have hW' := hW;obtain ⟨p, q, hA, hV, rfl, hfz, hnd⟩ := hW;rw [hvars] at hV;obtain ⟨rfl, rfl⟩ := trodVars_none hV;refine ⟨ds, [], p ++ [], [], p, [], hW', ?_, ?_, ?_, hb.frame _, fun h => by cases h⟩
 ·rw [hres, hs]
  exact trodAll_cons_mk (shut_bool Try.underlying4 _) trodAll_mk0
 ·rw [hs]
  exact trodAll_below hb _ _ _ _ hA hread (fun x hx => hW'.lt x (by simp [hx]))
 ·rw [hs, hvars]
  rfl
theorem fits_cons {t : TypeId} {ts : List TypeId} {d : DataW H} {ds : List (DataW H)} (h : (DataW.weightsEach Try.prog (t :: ts) (d :: ds)).all (· ≤ reachBytes) = true) :
  Fits Try.prog t d ∧ (DataW.weightsEach Try.prog ts ds).all (· ≤ reachBytes) = true := by
 rw [DataW.weightsEach, List.all_append, Bool.and_eq_true] at h;exact ⟨fun n hn => by simpa using (List.all_eq_true.1 h.1) n hn, h.2⟩
set_option maxRecDepth 100000 in
theorem open_values {W : World} {base : Nat} {v : Value} {d : DataW H} {p : List MemPlace} (hv : Value.okWide Try.prog W .any base 22 v) (h : DataW.Trod enc Try.prog W 0 (fun _ => true) true 22 v d p) (hf : Fits Try.prog 22 d) :
  ∃ l, RepL W.heap.size W l v ∧ l.length * 56 ≤ 140737488351232 := by
 obtain ⟨a0, len, cap, rfl⟩ := okWide_slice Try.underlying22 hv;obtain ⟨fuel, hf'⟩ := h;exact repL_of_trod d fuel _ p (by simpa [Value.cells] using hf') hf
end
end Go.Proofs.Ytbkligcfllakeaa
namespace Go.Proofs.Ytbkligcfllakeaa
open Go.ChangeShapes Go.WideShapes Go.ChangeAt Go.RowKit Go.Deep Go.Joins
section
variable {H : Type} {enc : TypeId × Value → H} {W : World}
end
end Go.Proofs.Ytbkligcfllakeaa
namespace Go.Proofs.Ytbkligcfllakeaa
open Go.ChangeShapes Go.WideShapes Go.ChangeAt Go.RowKit Go.Deep Go.Joins
section
variable {H : Type} {enc : TypeId × Value → H} {W : World}
end
end Go.Proofs.Ytbkligcfllakeaa
namespace Go.Proofs.Ytbkligcfllakeaa.bindVariables
open Go.ChangeShapes Go.WideShapes Go.ChangeAt Go.RowKit
open Go.ChangeMaps (open_string)
set_option maxRecDepth 100000 in
theorem contract (H : Type) (enc : TypeId × Value → H) (W : World) (base : Nat) (args : Array Value) (ds gs : List (DataW H)) (before : List MemPlace)
  (hval : ∀ (j : Nat) t v, Try.f3.params[j]? = some t → args[j]? = some v → Value.okWide Try.prog W .any base t v)
  (hW : DataW.Whole enc Try.prog Try.f3.params.toList Rows.bindVariablesSpec.vars false W args.toList ds gs before)
  (hz : (DataW.weightsEach Try.prog (Try.f3.params.toList ++ []) (ds ++ gs)).all (· ≤ reachBytes) = true) (_hL : laidMet Try.prog Rows.bindVariablesRow.laid W) :
  Calls Try.prog 3 args W fun e W' => ∃ v, e = .returned v ∧ Rows.bindVariablesSpec.post enc Try.prog Try.f3 false true false false W args v W' := by
 have hW' := hW;obtain ⟨p, q, hA0, hV, rfl, hfz, hnd⟩ := hW;have hA : DataW.TrodAll enc Try.prog W 0 (fun _ => true) true Try.f3.params.toList args.toList ds p := hA0;clear hA0;rw [Try.params3] at hA hval hz;obtain ⟨v0, vs0, d0, ds0, p0, q0, hargs, rfl, rfl, h0, r0⟩ := trodAll_cons hA;obtain ⟨v1, vs1, d1, ds1, p1, q1, rfl, rfl, rfl, h1, r1⟩ := trodAll_cons r0;obtain ⟨v2, vs2, d2, ds2, p2, q2, rfl, rfl, rfl, h2, r2⟩ := trodAll_cons r1;obtain ⟨rfl, rfl, rfl⟩ := trodAll_nil r2;obtain rfl : args = #[v0, v1, v2] := by cases args; simp_all
 obtain ⟨rfl, rfl⟩ := trodVars_none hV;have z0 : (DataW.weightsEach Try.prog [22, 3, 3] [d0, d1, d2]).all (· ≤ reachBytes) = true := by simpa using hz
 obtain ⟨f0, z1⟩ := fits_cons z0;obtain ⟨f1, z2⟩ := fits_cons z1;obtain ⟨f2, z3⟩ := fits_cons z2;obtain ⟨x0, g0, k0⟩ := open_values (hval 0 22 v0 rfl rfl) h0 f0;obtain ⟨x1, rfl, rfl, rfl, g1⟩ := open_int Try.underlying3 (hval 1 3 v1 rfl rfl) h1;obtain ⟨x2, rfl, rfl, rfl, g2⟩ := open_int Try.underlying3 (hval 2 3 v2 rfl rfl) h2
 -- USE: walk DATA W CELLS htab FACTS
 refine (walk x0 x1 x2 W v0 g0 (i64_wf g1) (i64_wf g2)).mono fun e W' ⟨he, hb⟩ => ⟨_, he, law_post rfl (by kernel_rfl) (fun t ht => ?_) hW' rfl hb⟩
 rw [Try.params3] at ht;have ht' : t = 22 ∨ t = 3 ∨ t = 3 := by simpa using ht
 rcases ht' with rfl | rfl | rfl <;> exact ⟨by kernel_rfl, of_decide_eq_true (by kernel_rfl)⟩
set_option maxRecDepth 100000 in
theorem laid_met (os : Os) : laidMet Try.prog Rows.bindVariablesRow.laid ((plainWorld os).forCall (fun _ _ => 0) ⟨#[], #[.slice none 0 0, .int .i64 0, .int .i64 0], []⟩).memory :=
 laidMet_of_run' 8 (by kernel_rfl) (by kernel_rfl)
set_option maxRecDepth 100000 in
theorem reads (os : Os) {H : Type} (enc : TypeId × Value → H) : ∃ places, DataW.whole enc Try.prog ((plainWorld os).forCall (fun _ _ => 0) ⟨#[], #[.slice none 0 0, .int .i64 0, .int .i64 0], []⟩).memory Try.f3.params.toList Rows.bindVariablesSpec.vars false (#[.slice none 0 0, .int .i64 0, .int .i64 0] : Array Value).toList 8 = some ([.nil, .lit (.int .i64 0), .lit (.int .i64 0)], [], places) :=
 ⟨[], by kernel_rfl⟩
set_option maxRecDepth 100000 in
theorem lifted (os : Os) (started : os.Started) (H : Type) (enc : TypeId × Value → H) (F : Stop.Interp) :
  ReturnsInHanded {} Try.checked os 3 .any ((OpenSpec.ofChange Rows.bindVariablesSpec).preRow enc Try.prog Try.f3 Rows.bindVariablesRow.domain false Rows.bindVariablesRow.laid) (((OpenSpec.ofChange Rows.bindVariablesSpec).at F).post enc Try.prog Try.f3 false true false false) := by
 obtain ⟨places, hx⟩ := reads os enc
 refine returnsInHanded_of_row (C := Try.checked) (s := OpenSpec.ofChange Rows.bindVariablesSpec) own started (by kernel_rfl) Try.func3
  (witness_row_at (enc := enc) (C := Try.checked) false (plainWorld os) #[.slice none 0 0, .int .i64 0, .int .i64 0] rfl (by kernel_rfl) (by kernel_rfl) (by kernel_rfl)
   (OpenSpec.preRow_of_cond 8 hx (by kernel_rfl) (fun k hk => by cases hk) (by kernel_rfl) (laid_met os))) ?_
 intro W base args ds gs before hval hW _ _ hz hL _ _;exact contract H enc W base args ds gs before hval hW hz hL
set_option maxRecDepth 100000 in
theorem said : Rows.BindVariablesSaid :=
 OpenClaim.holds_of_cond 3 Try.f3 rfl rfl rfl rfl rfl rfl rfl ⟨rfl, rfl, rfl, rfl, rfl⟩ rfl rfl rfl rfl rfl (by kernel_rfl) Try.func3 (by kernel_rfl)
  (of_decide_eq_true (by kernel_rfl)) (by unfold Func.isWrapper; first | (rw [if_pos (by decide +kernel)]; kernel_rfl) | (rw [if_neg (by decide +kernel)]; exact ⟨rfl, rfl⟩))
  (fun os started H enc _ F => by rw [OpenClaim.pre_eq_preRow]; exact lifted os started H enc F)
theorem holds : Rows.BindVariablesSaid := said
#print axioms holds
end Go.Proofs.Ytbkligcfllakeaa.bindVariables
