/-
  What an api.Value, or a slice of them, that came in reads as: a tree of values in memory.
-/
import Derived.Test.YtgjemmdhamkngaaGreatDoorP01
import Derived.Test.YtgjemmdhamkngaaGreatDoorP03
import Derived.Test.YtgjemmdhamkngaaGreatDoorP02
import Derived.Test.YtgjemmdhamkngaaGreatDoorCards
import Derived.Test.YtgjemmdhamkngaaGreatDoorTie
import Derived.Test.YtgjemmdhamkngaaGreatDoorP06
import Derived.Test.YtgjemmdhamkngaaGreatDoorP18
import Derived.Test.YtgjemmdhamkngaaGreatDoorP19
import Derived.Test.YtgjemmdhamkngaaGreatDoorP05
import Derived.ProofKit
import Derived.Lib.SmallJoins
import Derived.Deep.Slices
import Derived.OpenShut
import Derived.Deep.DeepHandedRow
import Derived.Lib.LaidTab
import Derived.Deep.Strs
namespace Go.Proofs.YtgjemmdhamkngaaGreatDoor
open Go.ChangeShapes Go.WideShapes Go.ChangeAt Go.RowKit Go.Deep Go.Joins

theorem cellsValue : Tryz.prog.cellsOf 44 = 4 := by kernel_rfl
theorem bytesValue : Tryz.prog.bytesOf 44 = 56 := by kernel_rfl
theorem cellsInt : Tryz.prog.cellsOf 3 = 1 := by kernel_rfl
theorem cellsString : Tryz.prog.cellsOf 9 = 1 := by kernel_rfl
theorem cellsValues : Tryz.prog.cellsOf 31 = 1 := by kernel_rfl

theorem i64_wf {n : Int} (h : (Lit.int .i64 n).wf = true) : I64 n := bounds_i64 h

section
variable {H : Type} {enc : TypeId × Value → H} {W : World}

theorem weightsAll_mem {P : Program} {e : TypeId} {ds : List (DataW H)} {d : DataW H} (h : d ∈ ds) (n : Nat) (hn : n ∈ d.weights P e) : n ∈ DataW.weightsAll P e ds := by
  induction ds with
  | nil => cases h
  | cons x r ih =>
    rw [DataW.weightsAll, List.mem_append]
    rcases List.mem_cons.1 h with rfl | h
    · exact Or.inl hn
    · exact Or.inr (ih h)

def Fits (P : Program) (t : TypeId) (d : DataW H) : Prop := ∀ n ∈ d.weights P t, n ≤ reachBytes

theorem fits_value {a b c e : DataW H} (h : Fits Tryz.prog 44 (.agg [a, b, c, e])) : Fits Tryz.prog 31 e := fun n hn => h n (by
  simp only [DataW.weights, Tryz.underlying44, List.map_cons, List.map_nil, DataW.weightsEach, List.mem_append]
  exact Or.inr (Or.inr (Or.inr (Or.inl hn))))
theorem fits_values {elems spare : List (DataW H)} (h : Fits Tryz.prog 31 (.slice elems spare)) : (elems.length + spare.length) * 56 ≤ 140737488351232 ∧ ∀ d ∈ elems, Fits Tryz.prog 44 d := by
  simp only [Fits, DataW.weights, Tryz.underlying31, bytesValue] at h
  refine ⟨h _ (List.mem_cons_self), fun d hd n hn => h n (List.mem_cons_of_mem _ (List.mem_append_left _ (weightsAll_mem hd n hn)))⟩

theorem cell_lt {w : World} {a : Addr} {v : Value} (h : w.cell? a = some v) : a.block < w.heap.size := by
  by_cases hlt : a.block < w.heap.size
  · exact hlt
  · have hn : w.heap[a.block]? = none := by simp; omega
    simp [World.cell?, hn] at h

theorem cells4 {w : World} {a : Addr} {cs : List Value} (h : w.cells? 0 a 4 = some cs) : ∃ c0 c1 c2 c3, cs = [c0, c1, c2, c3] ∧ a.spot = none ∧ w.cell? ⟨a.block, a.off, none⟩ = some c0 ∧ w.cell? ⟨a.block, a.off + 1, none⟩ = some c1 ∧ w.cell? ⟨a.block, a.off + 2, none⟩ = some c2 ∧ w.cell? ⟨a.block, a.off + 3, none⟩ = some c3 := by
  obtain ⟨_, hlen, hcell⟩ := World.cells?_some h
  obtain ⟨b, o, sp⟩ := a
  match cs, hlen with
  | [c0, c1, c2, c3], _ =>
    have hsp : sp = none := by simpa [Addr.add] using World.cell?_spot (hcell 0 (by omega))
    subst hsp
    exact ⟨c0, c1, c2, c3, rfl, rfl, by simpa [Addr.add] using hcell 0 (by omega), by simpa [Addr.add] using hcell 1 (by omega), by simpa [Addr.add] using hcell 2 (by omega), by simpa [Addr.add] using hcell 3 (by omega)⟩

theorem add_block (a : Addr) (n : Nat) : (a.add n).block = a.block := by unfold Addr.add; split <;> simp_all
theorem add_off (a : Addr) (n : Nat) : (a.add n).off = a.off + n := by unfold Addr.add; split <;> simp_all

theorem sizeOf_mem {D : Nat → DataW H} {len i : Nat} (h : i < len) {sp : List (DataW H)} : SizeOf.sizeOf (D i) < SizeOf.sizeOf (DataW.slice ((List.range len).map D) sp) := by
  have := List.sizeOf_lt_of_mem (List.mem_map_of_mem (f := D) (List.mem_range.2 h))
  simp only [DataW.slice.sizeOf_spec]
  omega

set_option maxRecDepth 100000 in
mutual
theorem rep_of_trod (d : DataW H) (fuel : Nat) (cs : List Value) (ps : List MemPlace) (h : DataW.trod enc Tryz.prog W 0 (fun _ => true) true fuel 44 cs = some (d, ps)) (hf : Fits Tryz.prog 44 d) :
    ∃ x c0 c1 c2 c3, cs = [c0, c1, c2, c3] ∧ RepV W.heap.size W x c0 c1 c2 c3 := by
  obtain ⟨y0, y1, y2, y3, n, hx, hlen, h0, h1, h2, h3⟩ := trod_struct4 Tryz.underlying44 h
  rw [cellsValue] at hlen
  match cs, hlen with
  | [c0, c1, c2, c3], _ =>
    simp only [Prod.mk.injEq] at hx
    simp [cellsInt] at h0 h1
    simp [cellsString] at h2
    simp [cellsValues] at h3
    obtain ⟨k, e0, r0, w0⟩ := DataW.trod_int Tryz.underlying3 h0
    obtain ⟨m, e1, r1, w1⟩ := DataW.trod_int Tryz.underlying3 h1
    obtain ⟨s, e2, r2, w2⟩ := DataW.trod_string Tryz.underlying9 h2
    simp at e0 e1 e2
    subst e0 e1 e2
    have hd : d = .agg [y0.1, y1.1, y2.1, y3.1] := by simpa using hx.1
    have hsz : SizeOf.sizeOf y3.1 < SizeOf.sizeOf d := by rw [hd]; simp; omega
    subst hd
    obtain ⟨l, hl, -⟩ := repL_of_trod y3.1 n c3 y3.2 h3 (fits_value hf)
    exact ⟨.mk k m s l, _, _, _, _, rfl, repV_mk.2 ⟨rfl, rfl, rfl, i64_wf w0, i64_wf w1, w2, hl⟩⟩
  termination_by SizeOf.sizeOf d
theorem repL_of_trod (d : DataW H) (fuel : Nat) (v : Value) (ps : List MemPlace) (h : DataW.trod enc Tryz.prog W 0 (fun _ => true) true fuel 31 [v] = some (d, ps)) (hf : Fits Tryz.prog 31 d) :
    ∃ l, RepL W.heap.size W l v ∧ l.length * 56 ≤ 140737488351232 := by
  rcases open_slice Tryz.underlying31 h with ⟨hc, hx⟩ | ⟨a, len, cap, mm, n, D, Pl, hc, _, hl, hm, hmm, hx, hall⟩
  · simp only [List.cons.injEq, and_true] at hc
    subst hc
    exact ⟨[], ⟨none, 0, 0, 0, rfl, Nat.le_refl _, by simp, fun h => by omega, fun h => by simp at h, fun i hi => by simp at hi⟩, by simp⟩
  · simp only [List.cons.injEq, and_true] at hc
    subst hc
    simp only [if_true] at hmm
    subst hmm
    simp only [Prod.mk.injEq] at hx
    obtain ⟨hd, _⟩ := hx
    rw [cellsValue] at hall
    have hfv := hf
    rw [hd] at hfv
    obtain ⟨hcap, hfe⟩ := fits_values hfv
    have hcap' : mm * 56 ≤ 140737488351232 := by
      simp only [List.length_map, List.length_range] at hcap
      have : len + (mm - len) = mm := by omega
      rw [this] at hcap
      exact hcap
    have hsz : ∀ i, i < len → SizeOf.sizeOf (D i) < SizeOf.sizeOf d := fun i hi => by rw [hd]; exact sizeOf_mem hi
    have key : ∀ i : Nat, ∃ x : V, i < len → ∃ c0 c1 c2 c3, W.cell? ⟨a.block, a.off + i * 4, none⟩ = some c0 ∧ W.cell? ⟨a.block, a.off + i * 4 + 1, none⟩ = some c1 ∧ W.cell? ⟨a.block, a.off + i * 4 + 2, none⟩ = some c2 ∧ W.cell? ⟨a.block, a.off + i * 4 + 3, none⟩ = some c3 ∧ RepV W.heap.size W x c0 c1 c2 c3 := by
      intro i
      by_cases hi : i < len
      · obtain ⟨cs', g1, g2⟩ := hall i (by omega)
        have := hsz i hi
        obtain ⟨x, c0, c1, c2, c3, rfl, hr⟩ := rep_of_trod (D i) n cs' (Pl i) g2 (hfe _ (List.mem_map_of_mem (List.mem_range.2 hi)))
        obtain ⟨d0, d1, d2, d3, he, hsp, q0, q1, q2, q3⟩ := cells4 g1
        simp only [List.cons.injEq, and_true] at he
        obtain ⟨rfl, rfl, rfl, rfl⟩ := he
        rw [add_block, add_off] at q0 q1 q2 q3
        exact ⟨x, fun _ => ⟨_, _, _, _, q0, q1, q2, q3, hr⟩⟩
      · exact ⟨.mk 0 0 ⟨#[]⟩ [], fun h => absurd h hi⟩
    obtain ⟨X, hX⟩ := Classical.axiomOfChoice key
    have hspot : 0 < mm → a.spot = none := fun h0 => by
      obtain ⟨cs', g1, g2⟩ := hall 0 h0
      obtain ⟨d0, d1, d2, d3, he, hsp, _⟩ := cells4 g1
      simpa [Addr.add] using hsp
    refine ⟨(List.range len).map X, ⟨some a, a.block, a.off, mm, by simp, by simpa using hl, by simp; omega, fun h0 => ?_, fun h0 => ?_, fun i hi => ?_⟩, by simp; omega⟩
    · have := hspot h0
      obtain ⟨b, o, sp⟩ := a
      simp at this
      subst this
      rfl
    · simp at h0
      obtain ⟨c0, _, _, _, q, _⟩ := hX 0 (by omega)
      exact cell_lt (a := ⟨a.block, _, none⟩) q
    · have hi' : i < len := by simpa using hi
      obtain ⟨c0, c1, c2, c3, q0, q1, q2, q3, hr⟩ := hX i hi'
      exact ⟨c0, c1, c2, c3, q0, q1, q2, q3, by rw [List.getElem_map, List.getElem_range]; exact hr⟩
  termination_by SizeOf.sizeOf d
end

end
end Go.Proofs.YtgjemmdhamkngaaGreatDoor

/-
  From 'the call returns true, and what lay there stands' to a law's row: the same lines for every law of a seat.
-/
namespace Go.Proofs.YtgjemmdhamkngaaGreatDoor
open Go.ChangeShapes Go.WideShapes Go.ChangeAt Go.RowKit

theorem own : ownKnob Tryz.prog.godebug = none := by kernel_rfl
theorem laidOut : laidOutB Tryz.prog = true := by kernel_rfl
theorem gTabType : (Tryz.prog.globals[0]?).map (·.type) = some 154 := by kernel_rfl
theorem cellsTab : Tryz.prog.cellsOf 154 = 20 := by kernel_rfl
theorem cellsU64 : Tryz.prog.cellsOf 143 = 1 := by kernel_rfl

theorem tab_of_laid {P : Program} {W : World} {name : String} {k : IntKind} {zs : List Int} {g : Nat} {t e : TypeId} {n : Nat}
    (hg : P.globalNamed name = some g) (hty : (P.globals[g]?).map (·.type) = some t) (ht : P.underlying t = some (.array n e)) (he : P.underlying e = some (.int k)) (hce : P.cellsOf e = 1) (hct : P.cellsOf t = n) :
    ∀ (laid : List (String × DataW Unit)) (ps : List MemPlace), DataW.LaidVars P W laid ps → (name, Lib.tabData k zs) ∈ laid → Lib.TabIs P W name k zs
  | [], _, _, hm => by cases hm
  | x :: rest, ps, h, hm => by
    obtain ⟨g', t', cs, fuel, p, q, hg', ht', hvar, hd, hq, _⟩ := h
    rcases List.mem_cons.1 hm with rfl | hm
    · obtain rfl := Option.some.inj (hg.symm.trans hg')
      obtain rfl := Option.some.inj (hty.symm.trans ht')
      unfold Lib.TabIs
      rw [hvar, ← Lib.cells_of_tab ht he hce hct hd]
    · exact tab_of_laid hg hty ht he hce hct rest q hq hm

theorem tabOk_of_laid {W : World} {laid : List (String × DataW Unit)} (h : laidMet Tryz.prog laid W) (hm : ("internal/strconv.uint64pow10", Rows.laid_internal_strconv_uint64pow10) ∈ laid) : TabOk W := by
  obtain ⟨ps, h1, _⟩ := h
  exact tab_of_laid gTab gTabType Tryz.underlying154 Tryz.underlying143 cellsU64 cellsTab laid ps h1 hm

theorem tab_lt {W : World} (h : TabOk W) : 0 < W.heap.size := by
  have := Lib.TabIs.cell h gTab 0 (by decide)
  exact cell_lt this

section
variable {H : Type} {enc : TypeId × Value → H}

theorem trodAll_below {W W' : World} (hb : Below W.heap.size W W') : ∀ (ts : List TypeId) (vs : List Value) (ds : List (DataW H)) (ps : List MemPlace), DataW.TrodAll enc Tryz.prog W 0 (fun _ => true) true ts vs ds ps →
    (∀ t ∈ ts, Tryz.prog.readableRec t = true ∧ t < Tryz.prog.types.size) → (∀ x ∈ ps, x.block < W.heap.size) → DataW.TrodAll enc Tryz.prog W' 0 (fun b => decide (b < W.heap.size)) true ts vs ds ps
  | [], [], [], ps, h, _, _ => h
  | t :: ts, v :: vs, d :: ds, ps, h, ht, hp => by
    obtain ⟨p, q, h1, h2, rfl⟩ := h
    obtain ⟨r1, r2⟩ := ht t (by simp)
    exact ⟨p, q, Below.trod laidOut r1 r2 h1 hb (fun x hx => hp x (by simp [hx])), trodAll_below hb ts vs ds q h2 (fun t' h' => ht t' (by simp [h'])) (fun x hx => hp x (by simp [hx])), rfl⟩
  | [], _ :: _, _, _, h, _, _ => by cases h
  | _ :: _, [], _, _, h, _, _ => by cases h
  | [], [], _ :: _, _, h, _, _ => by cases h
  | _ :: _, _ :: _, [], _, h, _, _ => by cases h

/-- THE ROW's POST of a law that returned true and left what lay there. -/
theorem law_post {fn : Func} {s : ChangeSpec} {W W' : World} {args : Array Value} {ds gs : List (DataW H)} {before : List MemPlace}
    (hvars : s.vars = []) (hres : fn.resultTypes = #[4]) (hread : ∀ t ∈ fn.params.toList, Tryz.prog.readableRec t = true ∧ t < Tryz.prog.types.size)
    (hW : DataW.Whole enc Tryz.prog fn.params.toList s.vars false W args.toList ds gs before)
    (hs : s.fn H (ds ++ gs) = { results := [.lit (.bool true)], args := ds })
    (hb : Below W.heap.size W W') : s.post enc Tryz.prog fn false true false false W args (.bool true) W' := by
  have hW' := hW
  obtain ⟨p, q, hA, hV, rfl, hfz, hnd⟩ := hW
  rw [hvars] at hV
  obtain ⟨rfl, rfl⟩ := trodVars_none hV
  refine ⟨ds, [], p ++ [], [], p, [], hW', ?_, ?_, ?_, hb.frame _, fun h => by cases h⟩
  · rw [hres, hs]
    exact trodAll_cons_mk (shut_bool Tryz.underlying4 _) trodAll_mk0
  · rw [hs]
    exact trodAll_below hb _ _ _ _ hA hread (fun x hx => hW'.lt x (by simp [hx]))
  · rw [hs, hvars]
    rfl

/-- The reach, argument by argument. -/
theorem fits_cons {t : TypeId} {ts : List TypeId} {d : DataW H} {ds : List (DataW H)} (h : (DataW.weightsEach Tryz.prog (t :: ts) (d :: ds)).all (· ≤ reachBytes) = true) :
    Fits Tryz.prog t d ∧ (DataW.weightsEach Tryz.prog ts ds).all (· ≤ reachBytes) = true := by
  rw [DataW.weightsEach, List.all_append, Bool.and_eq_true] at h
  exact ⟨fun n hn => by simpa using (List.all_eq_true.1 h.1) n hn, h.2⟩

set_option maxRecDepth 100000 in
/-- A value that came in. -/
theorem open_value {W : World} {base : Nat} {v : Value} {d : DataW H} {p : List MemPlace} (hv : Value.okWide Tryz.prog W .any base 44 v) (h : DataW.Trod enc Tryz.prog W 0 (fun _ => true) true 44 v d p) (hf : Fits Tryz.prog 44 d) :
    ∃ x c0 c1 c2 c3, v = .agg #[c0, c1, c2, c3] ∧ RepV W.heap.size W x c0 c1 c2 c3 := by
  obtain ⟨cs, rfl, hsz⟩ := okWide_struct Tryz.underlying44 hv
  obtain ⟨fuel, hf'⟩ := h
  obtain ⟨x, c0, c1, c2, c3, he, hr⟩ := rep_of_trod d fuel _ p hf' hf
  refine ⟨x, c0, c1, c2, c3, ?_, hr⟩
  have : cs.toList = [c0, c1, c2, c3] := by simpa [Value.cells] using he
  congr 1
  exact Array.toList_inj.1 (by simpa using this)
set_option maxRecDepth 100000 in
/-- A slice of values that came in. -/
theorem open_values {W : World} {base : Nat} {v : Value} {d : DataW H} {p : List MemPlace} (hv : Value.okWide Tryz.prog W .any base 31 v) (h : DataW.Trod enc Tryz.prog W 0 (fun _ => true) true 31 v d p) (hf : Fits Tryz.prog 31 d) :
    ∃ l, RepL W.heap.size W l v ∧ l.length * 56 ≤ 140737488351232 := by
  obtain ⟨a0, len, cap, rfl⟩ := okWide_slice Tryz.underlying31 hv
  obtain ⟨fuel, hf'⟩ := h
  exact repL_of_trod d fuel _ p (by simpa [Value.cells] using hf') hf
end

/-- A package-level table laid with its numbers. -/
def setTab (w : World) (g : Nat) (cs : Array Value) : World :=
  { w with heap := w.heap.modify g fun
      | .cells _ t frozen => .cells cs t frozen
      | o => o }
/-- A WORLD FOR THE WITNESSES: the settled one, the listed tables holding what their initialisers lay. -/
noncomputable def laidWorld (os : Os) : World :=
  setTab (setTab (setTab (World.holding Tryz.prog os ⟨#[], #[], []⟩)
    0 #[.int .u64 1, .int .u64 10, .int .u64 100, .int .u64 1000, .int .u64 10000, .int .u64 100000, .int .u64 1000000, .int .u64 10000000, .int .u64 100000000, .int .u64 1000000000, .int .u64 10000000000, .int .u64 100000000000, .int .u64 1000000000000, .int .u64 10000000000000, .int .u64 100000000000000, .int .u64 1000000000000000, .int .u64 10000000000000000, .int .u64 100000000000000000, .int .u64 1000000000000000000, .int .u64 10000000000000000000])
    1 #[.int .u8 0, .int .u8 1, .int .u8 28, .int .u8 2, .int .u8 29, .int .u8 14, .int .u8 24, .int .u8 3, .int .u8 30, .int .u8 22, .int .u8 20, .int .u8 15, .int .u8 25, .int .u8 17, .int .u8 4, .int .u8 8, .int .u8 31, .int .u8 27, .int .u8 13, .int .u8 23, .int .u8 21, .int .u8 19, .int .u8 16, .int .u8 7, .int .u8 26, .int .u8 12, .int .u8 18, .int .u8 6, .int .u8 11, .int .u8 5, .int .u8 10, .int .u8 9])
    2 #[.int .u8 0, .int .u8 1, .int .u8 56, .int .u8 2, .int .u8 57, .int .u8 49, .int .u8 28, .int .u8 3, .int .u8 61, .int .u8 58, .int .u8 42, .int .u8 50, .int .u8 38, .int .u8 29, .int .u8 17, .int .u8 4, .int .u8 62, .int .u8 47, .int .u8 59, .int .u8 36, .int .u8 45, .int .u8 43, .int .u8 51, .int .u8 22, .int .u8 53, .int .u8 39, .int .u8 33, .int .u8 30, .int .u8 24, .int .u8 18, .int .u8 12, .int .u8 5, .int .u8 63, .int .u8 55, .int .u8 48, .int .u8 27, .int .u8 60, .int .u8 41, .int .u8 37, .int .u8 16, .int .u8 46, .int .u8 35, .int .u8 44, .int .u8 21, .int .u8 52, .int .u8 32, .int .u8 23, .int .u8 11, .int .u8 54, .int .u8 26, .int .u8 40, .int .u8 15, .int .u8 34, .int .u8 20, .int .u8 31, .int .u8 10, .int .u8 25, .int .u8 14, .int .u8 19, .int .u8 9, .int .u8 13, .int .u8 8, .int .u8 7, .int .u8 6]

end Go.Proofs.YtgjemmdhamkngaaGreatDoor

/-
  What terms, literals, rules, facts, relations and programs that came in read as: trees in memory.
-/
namespace Go.Proofs.YtgjemmdhamkngaaGreatDoor
open Go.ChangeShapes Go.WideShapes Go.ChangeAt Go.RowKit Go.Deep Go.Joins

theorem cellsTm : Tryz.prog.cellsOf 46 = 7 := by kernel_rfl
theorem bytesTm : Tryz.prog.bytesOf 46 = 104 := by kernel_rfl
theorem cellsTms : Tryz.prog.cellsOf 34 = 1 := by kernel_rfl
theorem cellsLi : Tryz.prog.cellsOf 41 = 3 := by kernel_rfl
theorem bytesLi : Tryz.prog.bytesOf 41 = 48 := by kernel_rfl
theorem cellsLis : Tryz.prog.cellsOf 35 = 1 := by kernel_rfl
theorem cellsRu : Tryz.prog.cellsOf 37 = 6 := by kernel_rfl
theorem bytesRu : Tryz.prog.bytesOf 37 = 104 := by kernel_rfl
theorem cellsRus : Tryz.prog.cellsOf 24 = 1 := by kernel_rfl
theorem cellsDe : Tryz.prog.cellsOf 57 = 2 := by kernel_rfl
theorem bytesDe : Tryz.prog.bytesOf 57 = 24 := by kernel_rfl
theorem cellsDes : Tryz.prog.cellsOf 22 = 1 := by kernel_rfl
theorem cellsFa : Tryz.prog.cellsOf 33 = 2 := by kernel_rfl
theorem bytesFa : Tryz.prog.bytesOf 33 = 40 := by kernel_rfl
theorem cellsFas : Tryz.prog.cellsOf 23 = 1 := by kernel_rfl
theorem cellsPr : Tryz.prog.cellsOf 26 = 3 := by kernel_rfl

section
variable {H : Type} {enc : TypeId × Value → H} {W : World}

theorem fits_slice {st et : TypeId} {bytes : Nat} (hu : Tryz.prog.underlying st = some (.slice et)) (hb : Tryz.prog.bytesOf et = bytes) {elems spare : List (DataW H)} (h : Fits Tryz.prog st (.slice elems spare)) : (elems.length + spare.length) * bytes ≤ 140737488351232 ∧ ∀ d ∈ elems, Fits Tryz.prog et d := by
  simp only [Fits, DataW.weights, hu, hb] at h
  refine ⟨h _ (List.mem_cons_self), fun d hd n hn => h n (List.mem_cons_of_mem _ (List.mem_append_left _ (weightsAll_mem hd n hn)))⟩

set_option maxRecDepth 100000 in
theorem slg_of_trod {α : Type} {st et : TypeId} {n bytes : Nat} (R : α → (Nat → Value) → Prop) (x0 : α) (hu : Tryz.prog.underlying st = some (.slice et)) (hc : Tryz.prog.cellsOf et = n) (hb : Tryz.prog.bytesOf et = bytes) (hn : 0 < n)
    (d : DataW H) (fuel : Nat) (v : Value) (ps : List MemPlace) (h : DataW.trod enc Tryz.prog W 0 (fun _ => true) true fuel st [v] = some (d, ps)) (hf : Fits Tryz.prog st d)
    (hel : ∀ (d' : DataW H) (fuel' : Nat) (cs : List Value) (ps' : List MemPlace), SizeOf.sizeOf d' < SizeOf.sizeOf d → DataW.trod enc Tryz.prog W 0 (fun _ => true) true fuel' et cs = some (d', ps') → Fits Tryz.prog et d' → ∃ (x : α) (c : Nat → Value), (∀ j, j < n → cs[j]? = some (c j)) ∧ R x c) :
    ∃ l, SlG (fun k => k < W.heap.size) W n bytes R l v ∧ l.length * bytes ≤ 140737488351232 := by
  rcases open_slice hu h with ⟨hcs, hx⟩ | ⟨a, len, cap, mm, nf, D, Pl, hcs, _, hl, hm, hmm, hx, hall⟩
  · simp only [List.cons.injEq, and_true] at hcs
    subst hcs
    exact ⟨[], ⟨none, 0, 0, 0, rfl, Nat.le_refl _, by simp, fun h => by omega, fun h => by simp at h, fun i hi => by simp at hi⟩, by simp⟩
  · simp only [List.cons.injEq, and_true] at hcs
    subst hcs
    simp only [if_true] at hmm
    subst hmm
    simp only [Prod.mk.injEq] at hx
    obtain ⟨hd, _⟩ := hx
    rw [hc] at hall
    have hfv := hf
    rw [hd] at hfv
    obtain ⟨hcap, hfe⟩ := fits_slice hu hb hfv
    have hcap' : mm * bytes ≤ 140737488351232 := by
      simp only [List.length_map, List.length_range] at hcap
      have : len + (mm - len) = mm := by omega
      rw [this] at hcap
      exact hcap
    have hsz : ∀ i, i < len → SizeOf.sizeOf (D i) < SizeOf.sizeOf d := fun i hi => by rw [hd]; exact sizeOf_mem hi
    have hspot : 0 < mm → a.spot = none := fun h0 => by
      obtain ⟨cs', g1, g2⟩ := hall 0 h0
      obtain ⟨_, hlen, hcell⟩ := World.cells?_some g1
      have hc0 : cs'[0]? = some (cs'[0]'(by omega)) := List.getElem?_eq_getElem _
      have := World.cell?_spot ((hcell 0 hn).trans hc0)
      simpa [Addr.add] using this
    have key : ∀ i : Nat, ∃ p : α × (Nat → Value), i < len → (∀ j, j < n → W.cell? ⟨a.block, a.off + i * n + j, none⟩ = some (p.2 j)) ∧ R p.1 p.2 := by
      intro i
      by_cases hi : i < len
      · obtain ⟨cs', g1, g2⟩ := hall i (by omega)
        obtain ⟨x, c, hcj, hr⟩ := hel (D i) nf cs' (Pl i) (hsz i hi) g2 (hfe _ (List.mem_map_of_mem (List.mem_range.2 hi)))
        obtain ⟨_, hlen, hcell⟩ := World.cells?_some g1
        refine ⟨(x, c), fun _ => ⟨fun j hj => ?_, hr⟩⟩
        have hs := hspot (by omega)
        have e := (hcell j hj).trans (hcj j hj)
        obtain ⟨ab, ao, sp⟩ := a
        simp only at hs
        subst hs
        have add0 : ∀ (b o j : Nat), ((⟨b, o, none⟩ : Addr).add j) = ⟨b, o + j, none⟩ := by intro b o j; unfold Addr.add; split <;> simp_all
        rw [add0, add0] at e
        exact e
      · exact ⟨(x0, fun _ => undef), fun h => absurd h hi⟩
    obtain ⟨X, hX⟩ := Classical.axiomOfChoice key
    have hby : len * bytes ≤ mm * bytes := Nat.mul_le_mul_right _ hl
    refine ⟨(List.range len).map (fun i => (X i).1), ⟨some a, a.block, a.off, mm, by simp, by simpa using hl, by simp; omega, fun h0 => ?_, fun h0 => ?_, fun i hi => ?_⟩, by simp; omega⟩
    · have := hspot h0
      obtain ⟨b, o, sp⟩ := a
      simp at this
      subst this
      rfl
    · simp at h0
      obtain ⟨q, _⟩ := hX 0 (by omega)
      exact cell_lt (a := ⟨a.block, _, none⟩) (q 0 hn)
    · have hi' : i < len := by simpa using hi
      obtain ⟨q, hr⟩ := hX i hi'
      exact ⟨_, q, by rw [List.getElem_map, List.getElem_range]; exact hr⟩

theorem trod_struct6 {t : TypeId} {f0 f1 f2 f3 f4 f5 : Field} {fuel : Nat} {cs : List Value} {x : DataW H × List MemPlace} (ht : Tryz.prog.underlying t = some (.struct #[f0, f1, f2, f3, f4, f5])) (h : DataW.trod enc Tryz.prog W 0 (fun _ => true) true fuel t cs = some x) :
    ∃ y0 y1 y2 y3 y4 y5 n, x.1 = .agg [y0.1, y1.1, y2.1, y3.1, y4.1, y5.1] ∧ cs.length = Tryz.prog.cellsOf t ∧ DataW.trod enc Tryz.prog W 0 (fun _ => true) true n f0.type ((cs.drop f0.offset).take (Tryz.prog.cellsOf f0.type)) = some y0 ∧
      DataW.trod enc Tryz.prog W 0 (fun _ => true) true n f1.type ((cs.drop f1.offset).take (Tryz.prog.cellsOf f1.type)) = some y1 ∧ DataW.trod enc Tryz.prog W 0 (fun _ => true) true n f2.type ((cs.drop f2.offset).take (Tryz.prog.cellsOf f2.type)) = some y2 ∧
      DataW.trod enc Tryz.prog W 0 (fun _ => true) true n f3.type ((cs.drop f3.offset).take (Tryz.prog.cellsOf f3.type)) = some y3 ∧ DataW.trod enc Tryz.prog W 0 (fun _ => true) true n f4.type ((cs.drop f4.offset).take (Tryz.prog.cellsOf f4.type)) = some y4 ∧
      DataW.trod enc Tryz.prog W 0 (fun _ => true) true n f5.type ((cs.drop f5.offset).take (Tryz.prog.cellsOf f5.type)) = some y5 := by
  obtain ⟨xs, n, _, rfl, hl, hlen, hf⟩ := DataW.trod_struct ht h
  match xs, hlen with
  | [y0, y1, y2, y3, y4, y5], _ => exact ⟨y0, y1, y2, y3, y4, y5, n, by simp, hl, by simpa using hf 0 f0 rfl, by simpa using hf 1 f1 rfl, by simpa using hf 2 f2 rfl, by simpa using hf 3 f3 rfl, by simpa using hf 4 f4 rfl, by simpa using hf 5 f5 rfl⟩

theorem fits_tm_val {a0 a1 a2 a3 : DataW H} (h : Fits Tryz.prog 46 (.agg [a0, a1, a2, a3])) : Fits Tryz.prog 44 a2 := fun n hn => h n (by
  simp only [DataW.weights, Tryz.underlying46, List.map_cons, List.map_nil, DataW.weightsEach, List.mem_append]
  exact Or.inr (Or.inr (Or.inl hn)))
theorem fits_tm_args {a0 a1 a2 a3 : DataW H} (h : Fits Tryz.prog 46 (.agg [a0, a1, a2, a3])) : Fits Tryz.prog 34 a3 := fun n hn => h n (by
  simp only [DataW.weights, Tryz.underlying46, List.map_cons, List.map_nil, DataW.weightsEach, List.mem_append]
  exact Or.inr (Or.inr (Or.inr (Or.inl hn))))
theorem fits_li_args {a0 a1 a2 : DataW H} (h : Fits Tryz.prog 41 (.agg [a0, a1, a2])) : Fits Tryz.prog 34 a2 := fun n hn => h n (by
  simp only [DataW.weights, Tryz.underlying41, List.map_cons, List.map_nil, DataW.weightsEach, List.mem_append]
  exact Or.inr (Or.inr (Or.inl hn)))
theorem fits_ru_args {a0 a1 a2 a3 a4 a5 : DataW H} (h : Fits Tryz.prog 37 (.agg [a0, a1, a2, a3, a4, a5])) : Fits Tryz.prog 34 a2 := fun n hn => h n (by
  simp only [DataW.weights, Tryz.underlying37, List.map_cons, List.map_nil, DataW.weightsEach, List.mem_append]
  exact Or.inr (Or.inr (Or.inl hn)))
theorem fits_ru_body {a0 a1 a2 a3 a4 a5 : DataW H} (h : Fits Tryz.prog 37 (.agg [a0, a1, a2, a3, a4, a5])) : Fits Tryz.prog 35 a5 := fun n hn => h n (by
  simp only [DataW.weights, Tryz.underlying37, List.map_cons, List.map_nil, DataW.weightsEach, List.mem_append]
  exact Or.inr (Or.inr (Or.inr (Or.inr (Or.inr (Or.inl hn))))))
theorem fits_fa_args {a0 a1 : DataW H} (h : Fits Tryz.prog 33 (.agg [a0, a1])) : Fits Tryz.prog 31 a1 := fun n hn => h n (by
  simp only [DataW.weights, Tryz.underlying33, List.map_cons, List.map_nil, DataW.weightsEach, List.mem_append]
  exact Or.inr (Or.inl hn))
theorem fits_pr_decls {a0 a1 a2 : DataW H} (h : Fits Tryz.prog 26 (.agg [a0, a1, a2])) : Fits Tryz.prog 22 a0 := fun n hn => h n (by
  simp only [DataW.weights, Tryz.underlying26, List.map_cons, List.map_nil, DataW.weightsEach, List.mem_append]
  exact Or.inl hn)
theorem fits_pr_facts {a0 a1 a2 : DataW H} (h : Fits Tryz.prog 26 (.agg [a0, a1, a2])) : Fits Tryz.prog 23 a1 := fun n hn => h n (by
  simp only [DataW.weights, Tryz.underlying26, List.map_cons, List.map_nil, DataW.weightsEach, List.mem_append]
  exact Or.inr (Or.inl hn))
theorem fits_pr_rules {a0 a1 a2 : DataW H} (h : Fits Tryz.prog 26 (.agg [a0, a1, a2])) : Fits Tryz.prog 24 a2 := fun n hn => h n (by
  simp only [DataW.weights, Tryz.underlying26, List.map_cons, List.map_nil, DataW.weightsEach, List.mem_append]
  exact Or.inr (Or.inr (Or.inl hn)))

def inW (W : World) (k : Nat) : Prop := k < W.heap.size
def at7 (c0 c1 c2 c3 c4 c5 c6 : Value) : Nat → Value
  | 0 => c0 | 1 => c1 | 2 => c2 | 3 => c3 | 4 => c4 | 5 => c5 | _ => c6
set_option maxRecDepth 100000 in
theorem tm_of_trod (d : DataW H) (fuel : Nat) (cs : List Value) (ps : List MemPlace) (h : DataW.trod enc Tryz.prog W 0 (fun _ => true) true fuel 46 cs = some (d, ps)) (hf : Fits Tryz.prog 46 d) :
    ∃ x c0 c1 c2 c3 c4 c5 c6, cs = [c0, c1, c2, c3, c4, c5, c6] ∧ RepM (fun k => k < W.heap.size) W x c0 c1 c2 c3 c4 c5 c6 := by
  obtain ⟨y0, y1, y2, y3, n, hx, hlen, h0, h1, h2, h3⟩ := trod_struct4 Tryz.underlying46 h
  rw [cellsTm] at hlen
  match cs, hlen with
  | [c0, c1, c2, c3, c4, c5, c6], _ =>
    simp only [Prod.mk.injEq] at hx
    simp [cellsInt] at h0
    simp [cellsString] at h1
    simp [cellsValue] at h2
    simp [cellsTms] at h3
    obtain ⟨k, e0, r0, w0⟩ := DataW.trod_int Tryz.underlying3 h0
    obtain ⟨s, e1, r1, w1⟩ := DataW.trod_string Tryz.underlying9 h1
    simp at e0 e1
    subst e0 e1
    have hd : d = .agg [y0.1, y1.1, y2.1, y3.1] := by simpa using hx.1
    have hsz : SizeOf.sizeOf y3.1 < SizeOf.sizeOf d := by rw [hd]; simp; omega
    subst hd
    obtain ⟨x, d0, d1, d2, d3, e2, hr⟩ := rep_of_trod y2.1 n _ y2.2 h2 (fits_tm_val hf)
    simp only [List.cons.injEq, and_true] at e2
    obtain ⟨rfl, rfl, rfl, rfl⟩ := e2
    obtain ⟨l, hl, -⟩ := slg_of_trod (fun (x : Tm) c => RepM (fun k => k < W.heap.size) W x (c 0) (c 1) (c 2) (c 3) (c 4) (c 5) (c 6)) (.mk 0 ⟨#[]⟩ (.mk 0 0 ⟨#[]⟩ []) []) Tryz.underlying34 cellsTm bytesTm (by omega) y3.1 n c6 y3.2 h3 (fits_tm_args hf)
      (fun d' fuel' cs' ps' hs h' hf' => by
        obtain ⟨x, c0, c1, c2, c3, c4, c5, c6, rfl, hr⟩ := tm_of_trod d' fuel' cs' ps' h' hf'
        exact ⟨x, at7 c0 c1 c2 c3 c4 c5 c6, fun j hj => match j, hj with
          | 0, _ => rfl | 1, _ => rfl | 2, _ => rfl | 3, _ => rfl | 4, _ => rfl | 5, _ => rfl | 6, _ => rfl, hr⟩)
    exact ⟨.mk k s x l, _, _, _, _, _, _, _, rfl, repM_mk.2 ⟨rfl, rfl, i64_wf w0, w1, hr, hl⟩⟩
  termination_by SizeOf.sizeOf d
theorem tms_of_trod (d : DataW H) (fuel : Nat) (v : Value) (ps : List MemPlace) (h : DataW.trod enc Tryz.prog W 0 (fun _ => true) true fuel 34 [v] = some (d, ps)) (hf : Fits Tryz.prog 34 d) :
    ∃ l, RepMs (fun k => k < W.heap.size) W l v := by
  obtain ⟨l, hl, -⟩ := slg_of_trod (fun (x : Tm) c => RepM (fun k => k < W.heap.size) W x (c 0) (c 1) (c 2) (c 3) (c 4) (c 5) (c 6)) (.mk 0 ⟨#[]⟩ (.mk 0 0 ⟨#[]⟩ []) []) Tryz.underlying34 cellsTm bytesTm (by omega) d fuel v ps h hf
      (fun d' fuel' cs' ps' hs h' hf' => by
        obtain ⟨x, c0, c1, c2, c3, c4, c5, c6, rfl, hr⟩ := tm_of_trod d' fuel' cs' ps' h' hf'
        exact ⟨x, at7 c0 c1 c2 c3 c4 c5 c6, fun j hj => match j, hj with
          | 0, _ => rfl | 1, _ => rfl | 2, _ => rfl | 3, _ => rfl | 4, _ => rfl | 5, _ => rfl | 6, _ => rfl, hr⟩)
  exact ⟨l, hl⟩
set_option maxRecDepth 100000 in
theorem li_of_trod (d : DataW H) (fuel : Nat) (cs : List Value) (ps : List MemPlace) (h : DataW.trod enc Tryz.prog W 0 (fun _ => true) true fuel 41 cs = some (d, ps)) (hf : Fits Tryz.prog 41 d) :
    ∃ x c0 c1 c2, cs = [c0, c1, c2] ∧ RepLi (fun k => k < W.heap.size) W x c0 c1 c2 := by
  obtain ⟨y0, y1, y2, n, hx, hlen, h0, h1, h2⟩ := trod_struct3 Tryz.underlying41 h
  rw [cellsLi] at hlen
  match cs, hlen with
  | [c0, c1, c2], _ =>
    simp only [Prod.mk.injEq] at hx
    simp [cellsInt] at h0
    simp [cellsString] at h1
    simp [cellsTms] at h2
    obtain ⟨k, e0, r0, w0⟩ := DataW.trod_int Tryz.underlying3 h0
    obtain ⟨s, e1, r1, w1⟩ := DataW.trod_string Tryz.underlying9 h1
    simp at e0 e1
    subst e0 e1
    have hd : d = .agg [y0.1, y1.1, y2.1] := by simpa using hx.1
    subst hd
    obtain ⟨l, hl⟩ := tms_of_trod y2.1 n c2 y2.2 h2 (fits_li_args hf)
    exact ⟨⟨k, s, l⟩, _, _, _, rfl, rfl, rfl, i64_wf w0, w1, hl⟩
set_option maxRecDepth 100000 in
theorem ru_of_trod (d : DataW H) (fuel : Nat) (cs : List Value) (ps : List MemPlace) (h : DataW.trod enc Tryz.prog W 0 (fun _ => true) true fuel 37 cs = some (d, ps)) (hf : Fits Tryz.prog 37 d) :
    ∃ x c0 c1 c2 c3 c4 c5, cs = [c0, c1, c2, c3, c4, c5] ∧ RepRu (fun k => k < W.heap.size) W x c0 c1 c2 c3 c4 c5 := by
  obtain ⟨y0, y1, y2, y3, y4, y5, n, hx, hlen, h0, h1, h2, h3, h4, h5⟩ := trod_struct6 Tryz.underlying37 h
  rw [cellsRu] at hlen
  match cs, hlen with
  | [c0, c1, c2, c3, c4, c5], _ =>
    simp [cellsString] at h0 h1 h3
    simp [cellsTms] at h2
    simp [cellsInt] at h4
    simp [cellsLis] at h5
    obtain ⟨s0, e0, r0, w0⟩ := DataW.trod_string Tryz.underlying9 h0
    obtain ⟨s1, e1, r1, w1⟩ := DataW.trod_string Tryz.underlying9 h1
    obtain ⟨s3, e3, r3, w3⟩ := DataW.trod_string Tryz.underlying9 h3
    obtain ⟨k, e4, r4, w4⟩ := DataW.trod_int Tryz.underlying3 h4
    simp at e0 e1 e3 e4
    subst e0 e1 e3 e4
    have hd : d = .agg [y0.1, y1.1, y2.1, y3.1, y4.1, y5.1] := by simpa using hx
    subst hd
    obtain ⟨l, hl⟩ := tms_of_trod y2.1 n c2 y2.2 h2 (fits_ru_args hf)
    obtain ⟨m, hm, -⟩ := slg_of_trod (fun (x : Li) c => RepLi (fun k => k < W.heap.size) W x (c 0) (c 1) (c 2)) ⟨0, ⟨#[]⟩, []⟩ Tryz.underlying35 cellsLi bytesLi (by omega) y5.1 n c5 y5.2 h5 (fits_ru_body hf)
      (fun d' fuel' cs' ps' hs h' hf' => by
        obtain ⟨x, c0, c1, c2, rfl, hr⟩ := li_of_trod d' fuel' cs' ps' h' hf'
        exact ⟨x, at7 c0 c1 c2 c2 c2 c2 c2, fun j hj => match j, hj with
          | 0, _ => rfl | 1, _ => rfl | 2, _ => rfl, hr⟩)
    exact ⟨⟨s0, s1, l, s3, k, m⟩, _, _, _, _, _, _, rfl, rfl, rfl, rfl, rfl, w0, w1, w3, i64_wf w4, hl, hm⟩
set_option maxRecDepth 100000 in
theorem de_of_trod (d : DataW H) (fuel : Nat) (cs : List Value) (ps : List MemPlace) (h : DataW.trod enc Tryz.prog W 0 (fun _ => true) true fuel 57 cs = some (d, ps)) :
    ∃ x c0 c1, cs = [c0, c1] ∧ RepDe (fun k => k < W.heap.size) W x c0 c1 := by
  obtain ⟨y0, y1, n, hx, hlen, h0, h1⟩ := trod_struct2 Tryz.underlying57 h
  rw [cellsDe] at hlen
  match cs, hlen with
  | [c0, c1], _ =>
    simp [cellsString] at h0
    simp [cellsInt] at h1
    obtain ⟨s, e0, r0, w0⟩ := DataW.trod_string Tryz.underlying9 h0
    obtain ⟨k, e1, r1, w1⟩ := DataW.trod_int Tryz.underlying3 h1
    simp at e0 e1
    subst e0 e1
    exact ⟨⟨s, k⟩, _, _, rfl, rfl, rfl, w0, i64_wf w1⟩
set_option maxRecDepth 100000 in
theorem fa_of_trod (d : DataW H) (fuel : Nat) (cs : List Value) (ps : List MemPlace) (h : DataW.trod enc Tryz.prog W 0 (fun _ => true) true fuel 33 cs = some (d, ps)) (hf : Fits Tryz.prog 33 d) :
    ∃ x c0 c1, cs = [c0, c1] ∧ RepFa (fun k => k < W.heap.size) W x c0 c1 := by
  obtain ⟨y0, y1, n, hx, hlen, h0, h1⟩ := trod_struct2 Tryz.underlying33 h
  rw [cellsFa] at hlen
  match cs, hlen with
  | [c0, c1], _ =>
    simp only [Prod.mk.injEq] at hx
    simp [cellsString] at h0
    simp [cellsValues] at h1
    obtain ⟨s, e0, r0, w0⟩ := DataW.trod_string Tryz.underlying9 h0
    simp at e0
    subst e0
    have hd : d = .agg [y0.1, y1.1] := by simpa using hx.1
    subst hd
    obtain ⟨l, hl, -⟩ := repL_of_trod y1.1 n c1 y1.2 h1 (fits_fa_args hf)
    exact ⟨⟨s, l⟩, _, _, rfl, rfl, w0, hl⟩
set_option maxRecDepth 100000 in
theorem pr_of_trod (d : DataW H) (fuel : Nat) (cs : List Value) (ps : List MemPlace) (h : DataW.trod enc Tryz.prog W 0 (fun _ => true) true fuel 26 cs = some (d, ps)) (hf : Fits Tryz.prog 26 d) :
    ∃ x c0 c1 c2, cs = [c0, c1, c2] ∧ RepPr (fun k => k < W.heap.size) W x c0 c1 c2 := by
  obtain ⟨y0, y1, y2, n, hx, hlen, h0, h1, h2⟩ := trod_struct3 Tryz.underlying26 h
  rw [cellsPr] at hlen
  match cs, hlen with
  | [c0, c1, c2], _ =>
    simp only [Prod.mk.injEq] at hx
    simp [cellsDes] at h0
    simp [cellsFas] at h1
    simp [cellsRus] at h2
    have hd : d = .agg [y0.1, y1.1, y2.1] := by simpa using hx.1
    subst hd
    obtain ⟨l0, hl0, -⟩ := slg_of_trod (fun (x : De) c => RepDe (fun k => k < W.heap.size) W x (c 0) (c 1)) ⟨⟨#[]⟩, 0⟩ Tryz.underlying22 cellsDe bytesDe (by omega) y0.1 n c0 y0.2 h0 (fits_pr_decls hf)
      (fun d' fuel' cs' ps' hs h' hf' => by
        obtain ⟨x, c0, c1, rfl, hr⟩ := de_of_trod d' fuel' cs' ps' h'
        exact ⟨x, at7 c0 c1 c1 c1 c1 c1 c1, fun j hj => match j, hj with
          | 0, _ => rfl | 1, _ => rfl, hr⟩)
    obtain ⟨l1, hl1, -⟩ := slg_of_trod (fun (x : Fa) c => RepFa (fun k => k < W.heap.size) W x (c 0) (c 1)) ⟨⟨#[]⟩, []⟩ Tryz.underlying23 cellsFa bytesFa (by omega) y1.1 n c1 y1.2 h1 (fits_pr_facts hf)
      (fun d' fuel' cs' ps' hs h' hf' => by
        obtain ⟨x, c0, c1, rfl, hr⟩ := fa_of_trod d' fuel' cs' ps' h' hf'
        exact ⟨x, at7 c0 c1 c1 c1 c1 c1 c1, fun j hj => match j, hj with
          | 0, _ => rfl | 1, _ => rfl, hr⟩)
    obtain ⟨l2, hl2, -⟩ := slg_of_trod (fun (x : Ru) c => RepRu (fun k => k < W.heap.size) W x (c 0) (c 1) (c 2) (c 3) (c 4) (c 5)) ⟨⟨#[]⟩, ⟨#[]⟩, [], ⟨#[]⟩, 0, []⟩ Tryz.underlying24 cellsRu bytesRu (by omega) y2.1 n c2 y2.2 h2 (fits_pr_rules hf)
      (fun d' fuel' cs' ps' hs h' hf' => by
        obtain ⟨x, c0, c1, c2, c3, c4, c5, rfl, hr⟩ := ru_of_trod d' fuel' cs' ps' h' hf'
        exact ⟨x, at7 c0 c1 c2 c3 c4 c5 c5, fun j hj => match j, hj with
          | 0, _ => rfl | 1, _ => rfl | 2, _ => rfl | 3, _ => rfl | 4, _ => rfl | 5, _ => rfl, hr⟩)
    exact ⟨⟨l0, l1, l2⟩, _, _, _, rfl, hl0, hl1, hl2⟩

set_option maxRecDepth 100000 in
theorem open_program {base : Nat} {v : Value} {d : DataW H} {p : List MemPlace} (hv : Value.okWide Tryz.prog W .any base 26 v) (h : DataW.Trod enc Tryz.prog W 0 (fun _ => true) true 26 v d p) (hf : Fits Tryz.prog 26 d) :
    ∃ x c0 c1 c2, v = .agg #[c0, c1, c2] ∧ RepPr (fun k => k < W.heap.size) W x c0 c1 c2 := by
  obtain ⟨cs, rfl, hsz⟩ := okWide_struct Tryz.underlying26 hv
  obtain ⟨fuel, hf'⟩ := h
  obtain ⟨x, c0, c1, c2, he, hr⟩ := pr_of_trod d fuel _ p hf' hf
  refine ⟨x, c0, c1, c2, ?_, hr⟩
  have : cs.toList = [c0, c1, c2] := by simpa [Value.cells] using he
  congr 1
  exact Array.toList_inj.1 (by simpa using this)
set_option maxRecDepth 100000 in
theorem open_term {base : Nat} {v : Value} {d : DataW H} {p : List MemPlace} (hv : Value.okWide Tryz.prog W .any base 46 v) (h : DataW.Trod enc Tryz.prog W 0 (fun _ => true) true 46 v d p) (hf : Fits Tryz.prog 46 d) :
    ∃ x c0 c1 c2 c3 c4 c5 c6, v = .agg #[c0, c1, c2, c3, c4, c5, c6] ∧ RepM (fun k => k < W.heap.size) W x c0 c1 c2 c3 c4 c5 c6 := by
  obtain ⟨cs, rfl, hsz⟩ := okWide_struct Tryz.underlying46 hv
  obtain ⟨fuel, hf'⟩ := h
  obtain ⟨x, c0, c1, c2, c3, c4, c5, c6, he, hr⟩ := tm_of_trod d fuel _ p hf' hf
  refine ⟨x, c0, c1, c2, c3, c4, c5, c6, ?_, hr⟩
  have : cs.toList = [c0, c1, c2, c3, c4, c5, c6] := by simpa [Value.cells] using he
  congr 1
  exact Array.toList_inj.1 (by simpa using this)
set_option maxRecDepth 100000 in
theorem open_literal {base : Nat} {v : Value} {d : DataW H} {p : List MemPlace} (hv : Value.okWide Tryz.prog W .any base 41 v) (h : DataW.Trod enc Tryz.prog W 0 (fun _ => true) true 41 v d p) (hf : Fits Tryz.prog 41 d) :
    ∃ x c0 c1 c2, v = .agg #[c0, c1, c2] ∧ RepLi (fun k => k < W.heap.size) W x c0 c1 c2 := by
  obtain ⟨cs, rfl, hsz⟩ := okWide_struct Tryz.underlying41 hv
  obtain ⟨fuel, hf'⟩ := h
  obtain ⟨x, c0, c1, c2, he, hr⟩ := li_of_trod d fuel _ p hf' hf
  refine ⟨x, c0, c1, c2, ?_, hr⟩
  have : cs.toList = [c0, c1, c2] := by simpa [Value.cells] using he
  congr 1
  exact Array.toList_inj.1 (by simpa using this)
end
end Go.Proofs.YtgjemmdhamkngaaGreatDoor

/-
  PrinterTerms, the walk: for any two terms and any two literals the law returns true.
-/
namespace Go.Proofs.YtgjemmdhamkngaaGreatDoor.printerTerms
open Go.RowKit

theorem tm_same {x y : Tm} (hx : rightM 8 x = true) (hy : rightM 8 y = true) : eqB ([x] = [y]) = ((⟨(showM x).toArray⟩ : ByteArray).toList == (⟨(showM y).toArray⟩ : ByteArray).toList) := by
  rw [Lib.toList_data, Lib.toList_data]
  by_cases h : x = y
  · subst h
    rw [eqB_true rfl]; simp
  · rw [eqB_false (fun e => h (List.cons.inj e).1)]
    cases e : (showM x == showM y) with
    | false => rfl
    | true => exact absurd (tm_text_apart hx hy (by simpa using e)) h
theorem li_same {x y : Li} (hx : liB x = true) (hy : liB y = true) : eqB ([x] = [y]) = ((⟨(showLi x).toArray⟩ : ByteArray).toList == (⟨(showLi y).toArray⟩ : ByteArray).toList) := by
  rw [Lib.toList_data, Lib.toList_data]
  by_cases h : x = y
  · subst h
    rw [eqB_true rfl]; simp
  · rw [eqB_false (fun e => h (List.cons.inj e).1)]
    cases e : (showLi x == showLi y) with
    | false => rfl
    | true => exact absurd (li_text_apart hx hy (by simpa using e)) h
theorem rowM_new {y : Tm} {w : World} {c0 c1 c2 c3 c4 c5 c6 : Value} (h : RepM (fun b => b < w.heap.size) w y c0 c1 c2 c3 c4 c5 c6) :
    RepMs (fun b => b < (w.alloc (.cells #[c0, c1, c2, c3, c4, c5, c6] 46)).heap.size) (w.alloc (.cells #[c0, c1, c2, c3, c4, c5, c6] 46)) [y] (.slice (some ⟨w.heap.size, 0, none⟩) 1 1) :=
  slg_row (alloc_new' w _) (by simp) rfl (by simp) (fun i h' => match i, h' with
    | 0, _ => RepM.on (fun k hk => by simp; omega) (fun k hk => Below.heap_alloc _ _ _ hk) _ h)
theorem rowLi_new {y : Li} {w : World} {c0 c1 c2 : Value} (h : RepLi (fun b => b < w.heap.size) w y c0 c1 c2) :
    RepLis (fun b => b < (w.alloc (.cells #[c0, c1, c2] 41)).heap.size) (w.alloc (.cells #[c0, c1, c2] 41)) [y] (.slice (some ⟨w.heap.size, 0, none⟩) 1 1) :=
  slg_row (alloc_new' w _) (by simp) rfl (by simp) (fun i h' => match i, h' with
    | 0, _ => RepLi.on (fun k hk => by simp; omega) (fun k hk => Below.heap_alloc _ _ _ hk) h)
def RowM (y : Tm) (w : World) (v : Value) : Prop := ∃ ra rn rc, v = .slice ra rn rc ∧ RepMs (fun b => b < w.heap.size) w [y] v
theorem RowM.stay {y : Tm} {w w' : World} {v : Value} (hb : Below w.heap.size w w') (h : RowM y w v) : RowM y w' v := by
  obtain ⟨a, b, c, e, h⟩ := h
  exact ⟨a, b, c, e, RepMs.on (fun k hk => Nat.lt_of_lt_of_le hk hb.size) (fun k hk => hb.block k hk) h⟩
def RowLi (y : Li) (w : World) (v : Value) : Prop := ∃ ra rn rc, v = .slice ra rn rc ∧ RepLis (fun b => b < w.heap.size) w [y] v
theorem RowLi.stay {y : Li} {w w' : World} {v : Value} (hb : Below w.heap.size w w') (h : RowLi y w v) : RowLi y w' v := by
  obtain ⟨a, b, c, e, h⟩ := h
  exact ⟨a, b, c, e, RepLis.on (fun k hk => Nat.lt_of_lt_of_le hk hb.size) (fun k hk => hb.block k hk) h⟩
theorem some_text {l : List UInt8} (h : l ≠ []) : (⟨l.toArray⟩ : ByteArray).toList.isEmpty = false := by
  rw [Lib.toList_data]
  cases l with
  | nil => exact absurd rfl h
  | cons c t => rfl

set_option maxRecDepth 100000 in
set_option maxHeartbeats 3000000 in
theorem walk (x0 x1 : Tm) (x2 x3 : Li) (W : World) (a0 a1 a2 a3 a4 a5 a6 b0 b1 b2 b3 b4 b5 b6 c0 c1 c2 e0 e1 e2 : Value) (htab : TabOk W) (g0 : RepM (fun k => k < W.heap.size) W x0 a0 a1 a2 a3 a4 a5 a6) (g1 : RepM (fun k => k < W.heap.size) W x1 b0 b1 b2 b3 b4 b5 b6) (g2 : RepLi (fun k => k < W.heap.size) W x2 c0 c1 c2) (g3 : RepLi (fun k => k < W.heap.size) W x3 e0 e1 e2) :
    Calls Tryz.prog 6 #[.agg #[a0, a1, a2, a3, a4, a5, a6], .agg #[b0, b1, b2, b3, b4, b5, b6], .agg #[c0, c1, c2], .agg #[e0, e1, e2]] W fun e W' => e = .returned (.bool true) ∧ Below W.heap.size W W' := by
  have G0 := Lib.hid g0
  have G1 := Lib.hid g1
  have G2 := Lib.hid g2
  have G3 := Lib.hid g3
  obtain ⟨fa0, fc0, ga0, gc0, rfl, rfl, rfl, rfl, rfl, rfl, rfl⟩ := g0.form
  obtain ⟨fa1, fc1, ga1, gc1, rfl, rfl, rfl, rfl, rfl, rfl, rfl⟩ := g1.form
  obtain ⟨ga2, gc2, rfl, rfl, rfl⟩ := g2.form
  obtain ⟨ga3, gc3, rfl, rfl, rfl⟩ := g3.form
  have HG := Lib.hid (tab_lt htab); have HT := Lib.hid htab
  clear g0 g1 g2 g3 htab
  go_enter Tryz.func6, Tryz.ntmps6
  go_wp2_with fail
  have y0 := boxM_new W (.int .i64 x0.kind) (.string x0.name) (.int .i64 x0.val.kind) (.int .i64 x0.val.num) (.string x0.val.text) (.slice fa0 x0.val.list.length fc0) (.slice ga0 x0.args.length gc0)
  have s0 := World.size_alloc W (.cells #[.int .i64 x0.kind, .string x0.name, .int .i64 x0.val.kind, .int .i64 x0.val.num, .string x0.val.text, .slice fa0 x0.val.list.length fc0, .slice ga0 x0.args.length gc0] 46)
  have d0 := below_alloc W (.cells #[.int .i64 x0.kind, .string x0.name, .int .i64 x0.val.kind, .int .i64 x0.val.num, .string x0.val.text, .slice fa0 x0.val.list.length fc0, .slice ga0 x0.args.length gc0] 46)
  generalize W.alloc (.cells #[.int .i64 x0.kind, .string x0.name, .int .i64 x0.val.kind, .int .i64 x0.val.num, .string x0.val.text, .slice fa0 x0.val.list.length fc0, .slice ga0 x0.args.length gc0] 46) = w0 at *
  have y1 := boxM_new w0 (.int .i64 x1.kind) (.string x1.name) (.int .i64 x1.val.kind) (.int .i64 x1.val.num) (.string x1.val.text) (.slice fa1 x1.val.list.length fc1) (.slice ga1 x1.args.length gc1)
  have s1 := World.size_alloc w0 (.cells #[.int .i64 x1.kind, .string x1.name, .int .i64 x1.val.kind, .int .i64 x1.val.num, .string x1.val.text, .slice fa1 x1.val.list.length fc1, .slice ga1 x1.args.length gc1] 46)
  have d1 := below_alloc w0 (.cells #[.int .i64 x1.kind, .string x1.name, .int .i64 x1.val.kind, .int .i64 x1.val.num, .string x1.val.text, .slice fa1 x1.val.list.length fc1, .slice ga1 x1.args.length gc1] 46)
  generalize w0.alloc (.cells #[.int .i64 x1.kind, .string x1.name, .int .i64 x1.val.kind, .int .i64 x1.val.num, .string x1.val.text, .slice fa1 x1.val.list.length fc1, .slice ga1 x1.args.length gc1] 46) = w1 at *
  have y2 := boxLi_new w1 (.int .i64 x2.kind) (.string x2.name) (.slice ga2 x2.args.length gc2)
  have s2 := World.size_alloc w1 (.cells #[.int .i64 x2.kind, .string x2.name, .slice ga2 x2.args.length gc2] 41)
  have d2 := below_alloc w1 (.cells #[.int .i64 x2.kind, .string x2.name, .slice ga2 x2.args.length gc2] 41)
  generalize w1.alloc (.cells #[.int .i64 x2.kind, .string x2.name, .slice ga2 x2.args.length gc2] 41) = w2 at *
  have y3 := boxLi_new w2 (.int .i64 x3.kind) (.string x3.name) (.slice ga3 x3.args.length gc3)
  have s3 := World.size_alloc w2 (.cells #[.int .i64 x3.kind, .string x3.name, .slice ga3 x3.args.length gc3] 41)
  have d3 := below_alloc w2 (.cells #[.int .i64 x3.kind, .string x3.name, .slice ga3 x3.args.length gc3] 41)
  generalize w2.alloc (.cells #[.int .i64 x3.kind, .string x3.name, .slice ga3 x3.args.length gc3] 41) = w3 at *
  rw [s0] at y1 s1; rw [s1] at y2 s2; rw [s2] at y3 s3
  have Y0 := Lib.hid (((y0.on d1).on d2).on d3); have Y1 := Lib.hid ((y1.on d2).on d3); have Y2 := Lib.hid (y2.on d3); have Y3 := Lib.hid y3
  have B3 := Lib.hid (Below.step (Below.step (Below.step d0 d1) d2) d3)
  clear y0 y1 y2 y3 s0 s1 s2 s3 d0 d1 d2 d3
  refine (awake4_any _ (Nat.lt_of_lt_of_le HG.out B3.out.size) (HT.out.below HG.out B3.out)).mono ?_
  rintro e w4 ⟨rfl, hb⟩
  replace Y0 := Lib.hid (Y0.out.on hb)
  replace Y1 := Lib.hid (Y1.out.on hb)
  replace Y2 := Lib.hid (Y2.out.on hb)
  replace Y3 := Lib.hid (Y3.out.on hb)
  have B4 := Lib.hid (Below.step B3.out hb)
  clear hb
  obtain ⟨p0, p1, p2, p3, p4, p5, p6⟩ := Y0.out.cells
  go_wp2_with fail
  refine (term8_any x0 (fun k => k < W.heap.size) w4 _ _ _ _ _ _ _ (fun k hk => Nat.lt_of_lt_of_le hk B4.out.size) (RepM.on (fun _ h => h) (fun k hk => B4.out.block k hk) x0 G0.out)).mono ?_
  rintro e w5 ⟨u0, u1, u2, u3, u4, u5, u6, rfl, hrep, hb⟩
  have A0 := Lib.hid (fitTm_right 7 x0)
  generalize fitTm 8 x0 = z0 at *
  obtain ⟨fa7, fc7, ga7, gc7, rfl, rfl, rfl, rfl, rfl, rfl, rfl⟩ := hrep.form
  clear p0 p1 p2 p3 p4 p5 p6
  have da := below_alloc w5 (.cells #[.int .i64 z0.kind, .string z0.name, .int .i64 z0.val.kind, .int .i64 z0.val.num, .string z0.val.text, .slice fa7 z0.val.list.length fc7, .slice ga7 z0.args.length gc7] 46)
  have db := Below.step hb da
  have mk := boxM_new w5 (.int .i64 z0.kind) (.string z0.name) (.int .i64 z0.val.kind) (.int .i64 z0.val.num) (.string z0.val.text) (.slice fa7 z0.val.list.length fc7) (.slice ga7 z0.args.length gc7)
  have hrepa := RepM.on (S' := fun b => b < (w5.alloc (.cells #[.int .i64 z0.kind, .string z0.name, .int .i64 z0.val.kind, .int .i64 z0.val.num, .string z0.val.text, .slice fa7 z0.val.list.length fc7, .slice ga7 z0.args.length gc7] 46)).heap.size) (fun k hk => Nat.lt_of_lt_of_le hk.2 da.size) (fun k hk => da.block k hk.2) _ hrep
  replace Y1 := Lib.hid (Y1.out.on db)
  replace Y2 := Lib.hid (Y2.out.on db)
  replace Y3 := Lib.hid (Y3.out.on db)
  have M0 := Lib.hid mk; have R0 := Lib.hid hrepa
  have B6 := Lib.hid (Below.step B4.out db)
  clear mk hrepa hrep hb da db
  obtain ⟨p0, p1, p2, p3, p4, p5, p6⟩ := Y1.out.cells
  go_wp2_with fail
  generalize w5.alloc (.cells #[.int .i64 z0.kind, .string z0.name, .int .i64 z0.val.kind, .int .i64 z0.val.num, .string z0.val.text, .slice fa7 z0.val.list.length fc7, .slice ga7 z0.args.length gc7] 46) = w6 at *
  obtain ⟨k0, hk0⟩ : ∃ k, w5.heap.size = k := ⟨_, rfl⟩
  rw [hk0] at M0 ⊢
  clear hk0
  refine (term8_any x1 (fun k => k < W.heap.size) w6 _ _ _ _ _ _ _ (fun k hk => Nat.lt_of_lt_of_le hk B6.out.size) (RepM.on (fun _ h => h) (fun k hk => B6.out.block k hk) x1 G1.out)).mono ?_
  rintro e w7 ⟨v0, v1, v2, v3, v4, v5, v6, rfl, hrep, hb⟩
  have A1 := Lib.hid (fitTm_right 7 x1)
  generalize fitTm 8 x1 = z1 at *
  obtain ⟨fa8, fc8, ga8, gc8, rfl, rfl, rfl, rfl, rfl, rfl, rfl⟩ := hrep.form
  clear p0 p1 p2 p3 p4 p5 p6
  have da := below_alloc w7 (.cells #[.int .i64 z1.kind, .string z1.name, .int .i64 z1.val.kind, .int .i64 z1.val.num, .string z1.val.text, .slice fa8 z1.val.list.length fc8, .slice ga8 z1.args.length gc8] 46)
  have db := Below.step hb da
  have mk := boxM_new w7 (.int .i64 z1.kind) (.string z1.name) (.int .i64 z1.val.kind) (.int .i64 z1.val.num) (.string z1.val.text) (.slice fa8 z1.val.list.length fc8) (.slice ga8 z1.args.length gc8)
  have hrepa := RepM.on (S' := fun b => b < (w7.alloc (.cells #[.int .i64 z1.kind, .string z1.name, .int .i64 z1.val.kind, .int .i64 z1.val.num, .string z1.val.text, .slice fa8 z1.val.list.length fc8, .slice ga8 z1.args.length gc8] 46)).heap.size) (fun k hk => Nat.lt_of_lt_of_le hk.2 da.size) (fun k hk => da.block k hk.2) _ hrep
  replace Y2 := Lib.hid (Y2.out.on db)
  replace Y3 := Lib.hid (Y3.out.on db)
  replace M0 := Lib.hid (M0.out.on db)
  replace R0 := Lib.hid (RepM.on (S' := fun b => b < (w7.alloc (.cells #[.int .i64 z1.kind, .string z1.name, .int .i64 z1.val.kind, .int .i64 z1.val.num, .string z1.val.text, .slice fa8 z1.val.list.length fc8, .slice ga8 z1.args.length gc8] 46)).heap.size) (fun k hk => Nat.lt_of_lt_of_le hk db.size) (fun k hk => db.block k hk) _ R0.out)
  have M1 := Lib.hid mk; have R1 := Lib.hid hrepa
  have B8 := Lib.hid (Below.step B6.out db)
  clear mk hrepa hrep hb da db
  obtain ⟨p0, p1, p2⟩ := Y2.out.cells
  go_wp2_with fail
  generalize w7.alloc (.cells #[.int .i64 z1.kind, .string z1.name, .int .i64 z1.val.kind, .int .i64 z1.val.num, .string z1.val.text, .slice fa8 z1.val.list.length fc8, .slice ga8 z1.args.length gc8] 46) = w8 at *
  obtain ⟨k1, hk1⟩ : ∃ k, w7.heap.size = k := ⟨_, rfl⟩
  rw [hk1] at M1 ⊢
  clear hk1
  refine (fitLi_any x2 (fun k => k < W.heap.size) w8 _ _ _ (fun k hk => Nat.lt_of_lt_of_le hk B8.out.size) (RepLi.on (fun _ h => h) (fun k hk => B8.out.block k hk) G2.out)).mono ?_
  rintro e w9 ⟨r0, r1, r2, rfl, hrep, hb⟩
  have A2 := Lib.hid (fitLi_right x2)
  generalize fitLi x2 = z2 at *
  obtain ⟨ga9, gc9, rfl, rfl, rfl⟩ := hrep.form
  clear p0 p1 p2
  have da := below_alloc w9 (.cells #[.int .i64 z2.kind, .string z2.name, .slice ga9 z2.args.length gc9] 41)
  have db := Below.step hb da
  have mk := boxLi_new w9 (.int .i64 z2.kind) (.string z2.name) (.slice ga9 z2.args.length gc9)
  have hrepa := RepLi.on (S' := fun b => b < (w9.alloc (.cells #[.int .i64 z2.kind, .string z2.name, .slice ga9 z2.args.length gc9] 41)).heap.size) (fun k hk => Nat.lt_of_lt_of_le hk.2 da.size) (fun k hk => da.block k hk.2) hrep
  replace Y3 := Lib.hid (Y3.out.on db)
  replace M0 := Lib.hid (M0.out.on db)
  replace R0 := Lib.hid (RepM.on (S' := fun b => b < (w9.alloc (.cells #[.int .i64 z2.kind, .string z2.name, .slice ga9 z2.args.length gc9] 41)).heap.size) (fun k hk => Nat.lt_of_lt_of_le hk db.size) (fun k hk => db.block k hk) _ R0.out)
  replace M1 := Lib.hid (M1.out.on db)
  replace R1 := Lib.hid (RepM.on (S' := fun b => b < (w9.alloc (.cells #[.int .i64 z2.kind, .string z2.name, .slice ga9 z2.args.length gc9] 41)).heap.size) (fun k hk => Nat.lt_of_lt_of_le hk db.size) (fun k hk => db.block k hk) _ R1.out)
  have M2 := Lib.hid mk; have R2 := Lib.hid hrepa
  have B10 := Lib.hid (Below.step B8.out db)
  clear mk hrepa hrep hb da db
  obtain ⟨p0, p1, p2⟩ := Y3.out.cells
  go_wp2_with fail
  generalize w9.alloc (.cells #[.int .i64 z2.kind, .string z2.name, .slice ga9 z2.args.length gc9] 41) = w10 at *
  obtain ⟨k2, hk2⟩ : ∃ k, w9.heap.size = k := ⟨_, rfl⟩
  rw [hk2] at M2 ⊢
  clear hk2
  refine (fitLi_any x3 (fun k => k < W.heap.size) w10 _ _ _ (fun k hk => Nat.lt_of_lt_of_le hk B10.out.size) (RepLi.on (fun _ h => h) (fun k hk => B10.out.block k hk) G3.out)).mono ?_
  rintro e w11 ⟨t0, t1, t2, rfl, hrep, hb⟩
  have A3 := Lib.hid (fitLi_right x3)
  generalize fitLi x3 = z3 at *
  obtain ⟨ga10, gc10, rfl, rfl, rfl⟩ := hrep.form
  clear p0 p1 p2
  have da := below_alloc w11 (.cells #[.int .i64 z3.kind, .string z3.name, .slice ga10 z3.args.length gc10] 41)
  have db := Below.step hb da
  have mk := boxLi_new w11 (.int .i64 z3.kind) (.string z3.name) (.slice ga10 z3.args.length gc10)
  have hrepa := RepLi.on (S' := fun b => b < (w11.alloc (.cells #[.int .i64 z3.kind, .string z3.name, .slice ga10 z3.args.length gc10] 41)).heap.size) (fun k hk => Nat.lt_of_lt_of_le hk.2 da.size) (fun k hk => da.block k hk.2) hrep
  replace M0 := Lib.hid (M0.out.on db)
  replace R0 := Lib.hid (RepM.on (S' := fun b => b < (w11.alloc (.cells #[.int .i64 z3.kind, .string z3.name, .slice ga10 z3.args.length gc10] 41)).heap.size) (fun k hk => Nat.lt_of_lt_of_le hk db.size) (fun k hk => db.block k hk) _ R0.out)
  replace M1 := Lib.hid (M1.out.on db)
  replace R1 := Lib.hid (RepM.on (S' := fun b => b < (w11.alloc (.cells #[.int .i64 z3.kind, .string z3.name, .slice ga10 z3.args.length gc10] 41)).heap.size) (fun k hk => Nat.lt_of_lt_of_le hk db.size) (fun k hk => db.block k hk) _ R1.out)
  replace M2 := Lib.hid (M2.out.on db)
  replace R2 := Lib.hid (RepLi.on (S' := fun b => b < (w11.alloc (.cells #[.int .i64 z3.kind, .string z3.name, .slice ga10 z3.args.length gc10] 41)).heap.size) (fun k hk => Nat.lt_of_lt_of_le hk db.size) (fun k hk => db.block k hk) R2.out)
  have M3 := Lib.hid mk; have R3 := Lib.hid hrepa
  have B12 := Lib.hid (Below.step B10.out db)
  clear mk hrepa hrep hb da db
  go_wp2_with fail
  generalize w11.alloc (.cells #[.int .i64 z3.kind, .string z3.name, .slice ga10 z3.args.length gc10] 41) = w12 at *
  obtain ⟨k3, hk3⟩ : ∃ k, w11.heap.size = k := ⟨_, rfl⟩
  rw [hk3] at M3 ⊢
  clear hk3
  clear G0 G1 G2 G3 Y0 Y1 Y2 Y3
  obtain ⟨t0, ht0⟩ : ∃ t : ByteArray, (⟨(showM z0).toArray⟩ : ByteArray) = t := ⟨_, rfl⟩
  have T0 : Hid ((⟨(told (rightM 8 z0) (showM z0)).toArray⟩ : ByteArray) = t0) := by show _ = _; rw [A0.out]; exact ht0
  obtain ⟨t1, ht1⟩ : ∃ t : ByteArray, (⟨(showM z1).toArray⟩ : ByteArray) = t := ⟨_, rfl⟩
  have T1 : Hid ((⟨(told (rightM 8 z1) (showM z1)).toArray⟩ : ByteArray) = t1) := by show _ = _; rw [A1.out]; exact ht1
  obtain ⟨t2, ht2⟩ : ∃ t : ByteArray, (⟨(showLi z2).toArray⟩ : ByteArray) = t := ⟨_, rfl⟩
  have T2 : Hid ((⟨(told (liB z2) (showLi z2)).toArray⟩ : ByteArray) = t2) := by show _ = _; rw [A2.out]; exact ht2
  obtain ⟨t3, ht3⟩ : ∃ t : ByteArray, (⟨(showLi z3).toArray⟩ : ByteArray) = t := ⟨_, rfl⟩
  have T3 : Hid ((⟨(told (liB z3) (showLi z3)).toArray⟩ : ByteArray) = t3) := by show _ = _; rw [A3.out]; exact ht3
  have HQ0 := tm_same A0.out A1.out
  rw [ht0, ht1] at HQ0
  have HN0 := some_text (showM_ne A0.out)
  rw [ht0] at HN0
  obtain ⟨q0, hq0⟩ : ∃ b, (t0.toList == t1.toList) = b := ⟨_, rfl⟩
  rw [hq0] at HQ0
  have E0 := Lib.hid hq0; have Q0 := Lib.hid HQ0; have N0 := Lib.hid HN0
  clear hq0 HQ0 HN0
  have HQ1 := li_same A2.out A3.out
  rw [ht2, ht3] at HQ1
  have HN1 := some_text (showLi_ne A2.out)
  rw [ht2] at HN1
  obtain ⟨q1, hq1⟩ : ∃ b, (t2.toList == t3.toList) = b := ⟨_, rfl⟩
  rw [hq1] at HQ1
  have E1 := Lib.hid hq1; have Q1 := Lib.hid HQ1; have N1 := Lib.hid HN1
  clear hq1 HQ1 HN1
  clear ht0 ht1 ht2 ht3
  refine wp_region_factsG (by rfl) 64 (by rfl) (by kernel_rfl) (fun wz iz vz => (iz = 0 → vz = .agg #[.int .i64 z0.kind, .string z0.name, .int .i64 z0.val.kind, .int .i64 z0.val.num, .string z0.val.text, .slice fa7 z0.val.list.length fc7, .slice ga7 z0.args.length gc7]) ∧ (iz = 1 → vz = .string t0) ∧ (iz = 2 → vz = .agg #[.int .i64 z1.kind, .string z1.name, .int .i64 z1.val.kind, .int .i64 z1.val.num, .string z1.val.text, .slice fa8 z1.val.list.length fc8, .slice ga8 z1.args.length gc8]) ∧ (iz = 3 → vz = .string t1) ∧ (iz = 4 → vz = .bool q0) ∧ (iz = 5 → vz = .agg #[.int .i64 z0.kind, .string z0.name, .int .i64 z0.val.kind, .int .i64 z0.val.num, .string z0.val.text, .slice fa7 z0.val.list.length fc7, .slice ga7 z0.args.length gc7]) ∧ (iz = 6 → RowM z0 wz vz) ∧ (iz = 7 → vz = .agg #[.int .i64 z1.kind, .string z1.name, .int .i64 z1.val.kind, .int .i64 z1.val.num, .string z1.val.text, .slice fa8 z1.val.list.length fc8, .slice ga8 z1.args.length gc8]) ∧ (iz = 8 → RowM z1 wz vz) ∧ (iz = 9 → vz = .bool q0) ∧ (iz = 10 → vz = .bool true) ∧ (iz = 11 → vz = .bool true) ∧ (iz = 12 → vz = .agg #[.int .i64 z0.kind, .string z0.name, .int .i64 z0.val.kind, .int .i64 z0.val.num, .string z0.val.text, .slice fa7 z0.val.list.length fc7, .slice ga7 z0.args.length gc7]) ∧ (iz = 13 → vz = .string t0) ∧ (iz = 14 → vz = .bool true) ∧ (iz = 15 → vz = .bool true) ∧ (iz = 16 → vz = .bool true)) (fun w' => Below w12.heap.size w12 w') (Below.drew (Below.refl _ _)) ⟨?s0, ?s1, ?s2, ?s3, ?s4, ?s5, ?s6, ?s7, ?s8, ?s9, ?s10, ?s11, ?s12, ?s13, ?s14, ?s15, ?s16, trivial⟩ ?fin
  case s0 =>
    intro a w' hoff hg hdep K hK
    have h10 := off_at hoff 10 (v := .pointer (some ⟨k0, 0, none⟩)) (by kernel_rfl) rfl
    rw [if_pos (by rfl)]
    obtain ⟨l0, l1, l2, l3, l4, l5, l6⟩ := (M0.out.on hg).cells; obtain ⟨m0, m1, m2, m3, m4, m5, m6⟩ := (M1.out.on hg).cells
    go_simp
    exact hK.out _ _ hg ⟨fun _ => rfl, nn, nn, nn, nn, nn, nn, nn, nn, nn, nn, nn, nn, nn, nn, nn, nn⟩ (fun _ _ h => h)
  case s1 =>
    intro a w' hoff hg hdep K hK
    obtain ⟨v0, e0, f0⟩ := hdep 0 _ 25 (by kernel_rfl) rfl rfl
    obtain rfl := (f0.1 rfl).symm
    rw [if_pos (by rfl)]
    go_simp
    refine (prTm_any z0 (fun b => b < w'.heap.size) w' _ _ _ _ _ _ _ (fun _ h => h) (Nat.lt_of_lt_of_le HG.out (Below.step B12.out hg).size) (HT.out.below HG.out (Below.step B12.out hg)) (RepM.on (S' := fun b => b < w'.heap.size) (fun k hk => Nat.lt_of_lt_of_le hk hg.size) (fun k hk => hg.block k hk) _ R0.out) (fun h => showM_fits h)).mono ?_
    rw [T0.out]
    rintro e w2' ⟨rfl, hb⟩
    exact hK.out _ _ (Below.step hg hb) ⟨nn, fun _ => rfl, nn, nn, nn, nn, nn, nn, nn, nn, nn, nn, nn, nn, nn, nn, nn⟩ (fun _ _ h => ⟨h.1, h.2.1, h.2.2.1, h.2.2.2.1, h.2.2.2.2.1, h.2.2.2.2.2.1, fun e => RowM.stay hb (h.2.2.2.2.2.2.1 e), h.2.2.2.2.2.2.2.1, fun e => RowM.stay hb (h.2.2.2.2.2.2.2.2.1 e), h.2.2.2.2.2.2.2.2.2.1, h.2.2.2.2.2.2.2.2.2.2.1, h.2.2.2.2.2.2.2.2.2.2.2.1, h.2.2.2.2.2.2.2.2.2.2.2.2.1, h.2.2.2.2.2.2.2.2.2.2.2.2.2.1, h.2.2.2.2.2.2.2.2.2.2.2.2.2.2.1, h.2.2.2.2.2.2.2.2.2.2.2.2.2.2.2.1, h.2.2.2.2.2.2.2.2.2.2.2.2.2.2.2.2⟩)
  case s2 =>
    intro a w' hoff hg hdep K hK
    have h11 := off_at hoff 11 (v := .pointer (some ⟨k1, 0, none⟩)) (by kernel_rfl) rfl
    rw [if_pos (by rfl)]
    obtain ⟨l0, l1, l2, l3, l4, l5, l6⟩ := (M0.out.on hg).cells; obtain ⟨m0, m1, m2, m3, m4, m5, m6⟩ := (M1.out.on hg).cells
    go_simp
    exact hK.out _ _ hg ⟨nn, nn, fun _ => rfl, nn, nn, nn, nn, nn, nn, nn, nn, nn, nn, nn, nn, nn, nn⟩ (fun _ _ h => h)
  case s3 =>
    intro a w' hoff hg hdep K hK
    obtain ⟨v2, e2, f2⟩ := hdep 2 _ 27 (by kernel_rfl) rfl rfl
    obtain rfl := (f2.2.2.1 rfl).symm
    rw [if_pos (by rfl)]
    go_simp
    refine (prTm_any z1 (fun b => b < w'.heap.size) w' _ _ _ _ _ _ _ (fun _ h => h) (Nat.lt_of_lt_of_le HG.out (Below.step B12.out hg).size) (HT.out.below HG.out (Below.step B12.out hg)) (RepM.on (S' := fun b => b < w'.heap.size) (fun k hk => Nat.lt_of_lt_of_le hk hg.size) (fun k hk => hg.block k hk) _ R1.out) (fun h => showM_fits h)).mono ?_
    rw [T1.out]
    rintro e w2' ⟨rfl, hb⟩
    exact hK.out _ _ (Below.step hg hb) ⟨nn, nn, nn, fun _ => rfl, nn, nn, nn, nn, nn, nn, nn, nn, nn, nn, nn, nn, nn⟩ (fun _ _ h => ⟨h.1, h.2.1, h.2.2.1, h.2.2.2.1, h.2.2.2.2.1, h.2.2.2.2.2.1, fun e => RowM.stay hb (h.2.2.2.2.2.2.1 e), h.2.2.2.2.2.2.2.1, fun e => RowM.stay hb (h.2.2.2.2.2.2.2.2.1 e), h.2.2.2.2.2.2.2.2.2.1, h.2.2.2.2.2.2.2.2.2.2.1, h.2.2.2.2.2.2.2.2.2.2.2.1, h.2.2.2.2.2.2.2.2.2.2.2.2.1, h.2.2.2.2.2.2.2.2.2.2.2.2.2.1, h.2.2.2.2.2.2.2.2.2.2.2.2.2.2.1, h.2.2.2.2.2.2.2.2.2.2.2.2.2.2.2.1, h.2.2.2.2.2.2.2.2.2.2.2.2.2.2.2.2⟩)
  case s4 =>
    intro a w' hoff hg hdep K hK
    obtain ⟨v1, e1, f1⟩ := hdep 1 _ 26 (by kernel_rfl) rfl rfl
    obtain rfl := (f1.2.1 rfl).symm
    obtain ⟨v3, e3, f3⟩ := hdep 3 _ 28 (by kernel_rfl) rfl rfl
    obtain rfl := (f3.2.2.2.1 rfl).symm
    rw [if_pos (by rfl)]
    have he := E0.out
    go_simp
    exact hK.out _ _ hg ⟨nn, nn, nn, nn, fun _ => rfl, nn, nn, nn, nn, nn, nn, nn, nn, nn, nn, nn, nn⟩ (fun _ _ h => h)
  case s5 =>
    intro a w' hoff hg hdep K hK
    have h10 := off_at hoff 10 (v := .pointer (some ⟨k0, 0, none⟩)) (by kernel_rfl) rfl
    rw [if_pos (by rfl)]
    obtain ⟨l0, l1, l2, l3, l4, l5, l6⟩ := (M0.out.on hg).cells; obtain ⟨m0, m1, m2, m3, m4, m5, m6⟩ := (M1.out.on hg).cells
    go_simp
    exact hK.out _ _ hg ⟨nn, nn, nn, nn, nn, fun _ => rfl, nn, nn, nn, nn, nn, nn, nn, nn, nn, nn, nn⟩ (fun _ _ h => h)
  case s6 =>
    intro a w' hoff hg hdep K hK
    obtain ⟨v5, e5, f5⟩ := hdep 5 _ 30 (by kernel_rfl) rfl rfl
    obtain rfl := (f5.2.2.2.2.2.1 rfl).symm
    rw [if_pos (by rfl)]
    go_simp
    have hb := below_alloc w' (.cells #[.int .i64 z0.kind, .string z0.name, .int .i64 z0.val.kind, .int .i64 z0.val.num, .string z0.val.text, .slice fa7 z0.val.list.length fc7, .slice ga7 z0.args.length gc7] 46)
    have hp : RowM z0 _ _ := ⟨_, _, _, rfl, rowM_new (RepM.on (S' := fun b => b < w'.heap.size) (fun k hk => Nat.lt_of_lt_of_le hk hg.size) (fun k hk => hg.block k hk) _ R0.out)⟩
    exact hK.out _ _ (Below.step hg hb) ⟨nn, nn, nn, nn, nn, nn, fun _ => hp, nn, nn, nn, nn, nn, nn, nn, nn, nn, nn⟩ (fun _ _ h => ⟨h.1, h.2.1, h.2.2.1, h.2.2.2.1, h.2.2.2.2.1, h.2.2.2.2.2.1, fun e => RowM.stay hb (h.2.2.2.2.2.2.1 e), h.2.2.2.2.2.2.2.1, fun e => RowM.stay hb (h.2.2.2.2.2.2.2.2.1 e), h.2.2.2.2.2.2.2.2.2.1, h.2.2.2.2.2.2.2.2.2.2.1, h.2.2.2.2.2.2.2.2.2.2.2.1, h.2.2.2.2.2.2.2.2.2.2.2.2.1, h.2.2.2.2.2.2.2.2.2.2.2.2.2.1, h.2.2.2.2.2.2.2.2.2.2.2.2.2.2.1, h.2.2.2.2.2.2.2.2.2.2.2.2.2.2.2.1, h.2.2.2.2.2.2.2.2.2.2.2.2.2.2.2.2⟩)
  case s7 =>
    intro a w' hoff hg hdep K hK
    have h11 := off_at hoff 11 (v := .pointer (some ⟨k1, 0, none⟩)) (by kernel_rfl) rfl
    rw [if_pos (by rfl)]
    obtain ⟨l0, l1, l2, l3, l4, l5, l6⟩ := (M0.out.on hg).cells; obtain ⟨m0, m1, m2, m3, m4, m5, m6⟩ := (M1.out.on hg).cells
    go_simp
    exact hK.out _ _ hg ⟨nn, nn, nn, nn, nn, nn, nn, fun _ => rfl, nn, nn, nn, nn, nn, nn, nn, nn, nn⟩ (fun _ _ h => h)
  case s8 =>
    intro a w' hoff hg hdep K hK
    obtain ⟨v7, e7, f7⟩ := hdep 7 _ 32 (by kernel_rfl) rfl rfl
    obtain rfl := (f7.2.2.2.2.2.2.2.1 rfl).symm
    rw [if_pos (by rfl)]
    go_simp
    have hb := below_alloc w' (.cells #[.int .i64 z1.kind, .string z1.name, .int .i64 z1.val.kind, .int .i64 z1.val.num, .string z1.val.text, .slice fa8 z1.val.list.length fc8, .slice ga8 z1.args.length gc8] 46)
    have hp : RowM z1 _ _ := ⟨_, _, _, rfl, rowM_new (RepM.on (S' := fun b => b < w'.heap.size) (fun k hk => Nat.lt_of_lt_of_le hk hg.size) (fun k hk => hg.block k hk) _ R1.out)⟩
    exact hK.out _ _ (Below.step hg hb) ⟨nn, nn, nn, nn, nn, nn, nn, nn, fun _ => hp, nn, nn, nn, nn, nn, nn, nn, nn⟩ (fun _ _ h => ⟨h.1, h.2.1, h.2.2.1, h.2.2.2.1, h.2.2.2.2.1, h.2.2.2.2.2.1, fun e => RowM.stay hb (h.2.2.2.2.2.2.1 e), h.2.2.2.2.2.2.2.1, fun e => RowM.stay hb (h.2.2.2.2.2.2.2.2.1 e), h.2.2.2.2.2.2.2.2.2.1, h.2.2.2.2.2.2.2.2.2.2.1, h.2.2.2.2.2.2.2.2.2.2.2.1, h.2.2.2.2.2.2.2.2.2.2.2.2.1, h.2.2.2.2.2.2.2.2.2.2.2.2.2.1, h.2.2.2.2.2.2.2.2.2.2.2.2.2.2.1, h.2.2.2.2.2.2.2.2.2.2.2.2.2.2.2.1, h.2.2.2.2.2.2.2.2.2.2.2.2.2.2.2.2⟩)
  case s9 =>
    intro a w' hoff hg hdep K hK
    obtain ⟨v6, e6, f6⟩ := hdep 6 _ 31 (by kernel_rfl) rfl rfl
    have g6 := f6.2.2.2.2.2.2.1 rfl
    obtain ⟨v8, e8, f8⟩ := hdep 8 _ 33 (by kernel_rfl) rfl rfl
    have g8 := f8.2.2.2.2.2.2.2.2.1 rfl
    obtain ⟨ra6, rn6, rc6, rfl, s6⟩ := g6
    obtain ⟨ra8, rn8, rc8, rfl, s8⟩ := g8
    rw [if_pos (by rfl)]
    go_simp
    refine (sameTms_any [z0] [z1] (fun b => b < w'.heap.size) w' _ _ (fun _ h => h) s6 s8).mono ?_
    rw [Q0.out]
    rintro e w2' ⟨rfl, hb⟩
    exact hK.out _ _ (Below.step hg hb) ⟨nn, nn, nn, nn, nn, nn, nn, nn, nn, fun _ => rfl, nn, nn, nn, nn, nn, nn, nn⟩ (fun _ _ h => ⟨h.1, h.2.1, h.2.2.1, h.2.2.2.1, h.2.2.2.2.1, h.2.2.2.2.2.1, fun e => RowM.stay hb (h.2.2.2.2.2.2.1 e), h.2.2.2.2.2.2.2.1, fun e => RowM.stay hb (h.2.2.2.2.2.2.2.2.1 e), h.2.2.2.2.2.2.2.2.2.1, h.2.2.2.2.2.2.2.2.2.2.1, h.2.2.2.2.2.2.2.2.2.2.2.1, h.2.2.2.2.2.2.2.2.2.2.2.2.1, h.2.2.2.2.2.2.2.2.2.2.2.2.2.1, h.2.2.2.2.2.2.2.2.2.2.2.2.2.2.1, h.2.2.2.2.2.2.2.2.2.2.2.2.2.2.2.1, h.2.2.2.2.2.2.2.2.2.2.2.2.2.2.2.2⟩)
  case s10 =>
    intro a w' hoff hg hdep K hK
    obtain ⟨v4, e4, f4⟩ := hdep 4 _ 29 (by kernel_rfl) rfl rfl
    obtain rfl := (f4.2.2.2.2.1 rfl).symm
    obtain ⟨v9, e9, f9⟩ := hdep 9 _ 34 (by kernel_rfl) rfl rfl
    obtain rfl := (f9.2.2.2.2.2.2.2.2.2.1 rfl).symm
    rw [if_pos (by rfl)]
    have hqq : (q0 == q0) = true := by simp
    go_simp
    exact hK.out _ _ hg ⟨nn, nn, nn, nn, nn, nn, nn, nn, nn, nn, fun _ => rfl, nn, nn, nn, nn, nn, nn⟩ (fun _ _ h => h)
  case s11 =>
    intro a w' hoff hg hdep K hK
    obtain ⟨v10, e10, f10⟩ := hdep 10 _ 35 (by kernel_rfl) rfl rfl
    obtain rfl := (f10.2.2.2.2.2.2.2.2.2.2.1 rfl).symm
    rw [if_pos (by rfl)]
    go_simp
    exact hK.out _ _ hg ⟨nn, nn, nn, nn, nn, nn, nn, nn, nn, nn, nn, fun _ => rfl, nn, nn, nn, nn, nn⟩ (fun _ _ h => h)
  case s12 =>
    intro a w' hoff hg hdep K hK
    have h10 := off_at hoff 10 (v := .pointer (some ⟨k0, 0, none⟩)) (by kernel_rfl) rfl
    obtain ⟨v11, e11, f11⟩ := hdep 11 _ 36 (by kernel_rfl) rfl rfl
    obtain rfl := (f11.2.2.2.2.2.2.2.2.2.2.2.1 rfl).symm
    rw [if_pos (by simp [Region.wanted, yielded, e11])]
    obtain ⟨l0, l1, l2, l3, l4, l5, l6⟩ := (M0.out.on hg).cells; obtain ⟨m0, m1, m2, m3, m4, m5, m6⟩ := (M1.out.on hg).cells
    go_simp
    exact hK.out _ _ hg ⟨nn, nn, nn, nn, nn, nn, nn, nn, nn, nn, nn, nn, fun _ => rfl, nn, nn, nn, nn⟩ (fun _ _ h => h)
  case s13 =>
    intro a w' hoff hg hdep K hK
    obtain ⟨v12, e12, f12⟩ := hdep 12 _ 37 (by kernel_rfl) rfl rfl
    obtain rfl := (f12.2.2.2.2.2.2.2.2.2.2.2.2.1 rfl).symm
    obtain ⟨v11, e11, f11⟩ := hdep 11 _ 36 (by kernel_rfl) rfl rfl
    obtain rfl := (f11.2.2.2.2.2.2.2.2.2.2.2.1 rfl).symm
    rw [if_pos (by simp [Region.wanted, yielded, e11])]
    go_simp
    refine (prTm_any z0 (fun b => b < w'.heap.size) w' _ _ _ _ _ _ _ (fun _ h => h) (Nat.lt_of_lt_of_le HG.out (Below.step B12.out hg).size) (HT.out.below HG.out (Below.step B12.out hg)) (RepM.on (S' := fun b => b < w'.heap.size) (fun k hk => Nat.lt_of_lt_of_le hk hg.size) (fun k hk => hg.block k hk) _ R0.out) (fun h => showM_fits h)).mono ?_
    rw [T0.out]
    rintro e w2' ⟨rfl, hb⟩
    exact hK.out _ _ (Below.step hg hb) ⟨nn, nn, nn, nn, nn, nn, nn, nn, nn, nn, nn, nn, nn, fun _ => rfl, nn, nn, nn⟩ (fun _ _ h => ⟨h.1, h.2.1, h.2.2.1, h.2.2.2.1, h.2.2.2.2.1, h.2.2.2.2.2.1, fun e => RowM.stay hb (h.2.2.2.2.2.2.1 e), h.2.2.2.2.2.2.2.1, fun e => RowM.stay hb (h.2.2.2.2.2.2.2.2.1 e), h.2.2.2.2.2.2.2.2.2.1, h.2.2.2.2.2.2.2.2.2.2.1, h.2.2.2.2.2.2.2.2.2.2.2.1, h.2.2.2.2.2.2.2.2.2.2.2.2.1, h.2.2.2.2.2.2.2.2.2.2.2.2.2.1, h.2.2.2.2.2.2.2.2.2.2.2.2.2.2.1, h.2.2.2.2.2.2.2.2.2.2.2.2.2.2.2.1, h.2.2.2.2.2.2.2.2.2.2.2.2.2.2.2.2⟩)
  case s14 =>
    intro a w' hoff hg hdep K hK
    obtain ⟨v13, e13, f13⟩ := hdep 13 _ 38 (by kernel_rfl) rfl rfl
    obtain rfl := (f13.2.2.2.2.2.2.2.2.2.2.2.2.2.1 rfl).symm
    obtain ⟨v11, e11, f11⟩ := hdep 11 _ 36 (by kernel_rfl) rfl rfl
    obtain rfl := (f11.2.2.2.2.2.2.2.2.2.2.2.1 rfl).symm
    rw [if_pos (by simp [Region.wanted, yielded, e11])]
    have hn := N0.out
    go_simp
    exact hK.out _ _ hg ⟨nn, nn, nn, nn, nn, nn, nn, nn, nn, nn, nn, nn, nn, nn, fun _ => rfl, nn, nn⟩ (fun _ _ h => h)
  case s15 =>
    intro a w' hoff hg hdep K hK
    obtain ⟨v11, e11, f11⟩ := hdep 11 _ 36 (by kernel_rfl) rfl rfl
    obtain rfl := (f11.2.2.2.2.2.2.2.2.2.2.2.1 rfl).symm
    obtain ⟨v14, e14, f14⟩ := hdep 14 _ 39 (by kernel_rfl) rfl rfl
    obtain rfl := (f14.2.2.2.2.2.2.2.2.2.2.2.2.2.2.1 rfl).symm
    rw [if_pos (by rfl)]
    go_simp
    exact hK.out _ _ hg ⟨nn, nn, nn, nn, nn, nn, nn, nn, nn, nn, nn, nn, nn, nn, nn, fun _ => rfl, nn⟩ (fun _ _ h => h)
  case s16 =>
    intro a w' hoff hg hdep K hK
    obtain ⟨v15, e15, f15⟩ := hdep 15 _ 40 (by kernel_rfl) rfl rfl
    obtain rfl := (f15.2.2.2.2.2.2.2.2.2.2.2.2.2.2.2.1 rfl).symm
    rw [if_pos (by rfl)]
    go_simp
    exact hK.out _ _ hg ⟨nn, nn, nn, nn, nn, nn, nn, nn, nn, nn, nn, nn, nn, nn, nn, nn, fun _ => rfl⟩ (fun _ _ h => h)
  case fin =>
    intro a w13 hoff hg hf
    obtain ⟨v0, e0, f0⟩ := hf 0 _ 25 rfl rfl
    obtain rfl := (f0.1 rfl).symm
    obtain ⟨v1, e1, f1⟩ := hf 1 _ 26 rfl rfl
    obtain rfl := (f1.2.1 rfl).symm
    obtain ⟨v2, e2, f2⟩ := hf 2 _ 27 rfl rfl
    obtain rfl := (f2.2.2.1 rfl).symm
    obtain ⟨v3, e3, f3⟩ := hf 3 _ 28 rfl rfl
    obtain rfl := (f3.2.2.2.1 rfl).symm
    obtain ⟨v4, e4, f4⟩ := hf 4 _ 29 rfl rfl
    obtain rfl := (f4.2.2.2.2.1 rfl).symm
    obtain ⟨v5, e5, f5⟩ := hf 5 _ 30 rfl rfl
    obtain rfl := (f5.2.2.2.2.2.1 rfl).symm
    obtain ⟨v6, e6, f6⟩ := hf 6 _ 31 rfl rfl
    have g6 := f6.2.2.2.2.2.2.1 rfl
    obtain ⟨v7, e7, f7⟩ := hf 7 _ 32 rfl rfl
    obtain rfl := (f7.2.2.2.2.2.2.2.1 rfl).symm
    obtain ⟨v8, e8, f8⟩ := hf 8 _ 33 rfl rfl
    have g8 := f8.2.2.2.2.2.2.2.2.1 rfl
    obtain ⟨v9, e9, f9⟩ := hf 9 _ 34 rfl rfl
    obtain rfl := (f9.2.2.2.2.2.2.2.2.2.1 rfl).symm
    obtain ⟨v10, e10, f10⟩ := hf 10 _ 35 rfl rfl
    obtain rfl := (f10.2.2.2.2.2.2.2.2.2.2.1 rfl).symm
    obtain ⟨v11, e11, f11⟩ := hf 11 _ 36 rfl rfl
    obtain rfl := (f11.2.2.2.2.2.2.2.2.2.2.2.1 rfl).symm
    obtain ⟨v12, e12, f12⟩ := hf 12 _ 37 rfl rfl
    obtain rfl := (f12.2.2.2.2.2.2.2.2.2.2.2.2.1 rfl).symm
    obtain ⟨v13, e13, f13⟩ := hf 13 _ 38 rfl rfl
    obtain rfl := (f13.2.2.2.2.2.2.2.2.2.2.2.2.2.1 rfl).symm
    obtain ⟨v14, e14, f14⟩ := hf 14 _ 39 rfl rfl
    obtain rfl := (f14.2.2.2.2.2.2.2.2.2.2.2.2.2.2.1 rfl).symm
    obtain ⟨v15, e15, f15⟩ := hf 15 _ 40 rfl rfl
    obtain rfl := (f15.2.2.2.2.2.2.2.2.2.2.2.2.2.2.2.1 rfl).symm
    obtain ⟨v16, e16, f16⟩ := hf 16 _ 14 rfl rfl
    obtain rfl := (f16.2.2.2.2.2.2.2.2.2.2.2.2.2.2.2.2 rfl).symm
    rw [hoff.sets [(25, .agg #[.int .i64 z0.kind, .string z0.name, .int .i64 z0.val.kind, .int .i64 z0.val.num, .string z0.val.text, .slice fa7 z0.val.list.length fc7, .slice ga7 z0.args.length gc7]), (26, .string t0), (27, .agg #[.int .i64 z1.kind, .string z1.name, .int .i64 z1.val.kind, .int .i64 z1.val.num, .string z1.val.text, .slice fa8 z1.val.list.length fc8, .slice ga8 z1.args.length gc8]), (28, .string t1), (29, .bool q0), (30, .agg #[.int .i64 z0.kind, .string z0.name, .int .i64 z0.val.kind, .int .i64 z0.val.num, .string z0.val.text, .slice fa7 z0.val.list.length fc7, .slice ga7 z0.args.length gc7]), (31, v6), (32, .agg #[.int .i64 z1.kind, .string z1.name, .int .i64 z1.val.kind, .int .i64 z1.val.num, .string z1.val.text, .slice fa8 z1.val.list.length fc8, .slice ga8 z1.args.length gc8]), (33, v8), (34, .bool q0), (35, .bool true), (36, .bool true), (37, .agg #[.int .i64 z0.kind, .string z0.name, .int .i64 z0.val.kind, .int .i64 z0.val.num, .string z0.val.text, .slice fa7 z0.val.list.length fc7, .slice ga7 z0.args.length gc7]), (38, .string t0), (39, .bool true), (40, .bool true), (14, .bool true)] (by kernel_rfl) (by intro p hp; simp only [List.mem_cons, List.not_mem_nil, or_false] at hp; rcases hp with rfl | rfl | rfl | rfl | rfl | rfl | rfl | rfl | rfl | rfl | rfl | rfl | rfl | rfl | rfl | rfl | rfl <;> assumption)]
    clear hoff hf e0 f0 e1 f1 e2 f2 e3 f3 e4 f4 e5 f5 e6 f6 e7 f7 e8 f8 e9 f9 e10 f10 e11 f11 e12 f12 e13 f13 e14 f14 e15 f15 e16 f16
    simp only [List.foldl_cons, List.foldl_nil, List.setIfInBounds_toArray, List.set_cons_zero, List.set_cons_succ]
    replace M2 := Lib.hid (M2.out.on hg); replace M3 := Lib.hid (M3.out.on hg)
    replace R2 := Lib.hid (RepLi.on (S' := fun b => b < w13.heap.size) (fun k hk => Nat.lt_of_lt_of_le hk hg.size) (fun k hk => hg.block k hk) R2.out); replace R3 := Lib.hid (RepLi.on (S' := fun b => b < w13.heap.size) (fun k hk => Nat.lt_of_lt_of_le hk hg.size) (fun k hk => hg.block k hk) R3.out)
    have B13 := Lib.hid (Below.step B12.out hg)
    clear hg
    go_wp2_with fail
    refine wp_region_factsG (by rfl) 64 (by rfl) (by kernel_rfl) (fun wz iz vz => (iz = 0 → vz = .agg #[.int .i64 z2.kind, .string z2.name, .slice ga9 z2.args.length gc9]) ∧ (iz = 1 → vz = .string t2) ∧ (iz = 2 → vz = .agg #[.int .i64 z3.kind, .string z3.name, .slice ga10 z3.args.length gc10]) ∧ (iz = 3 → vz = .string t3) ∧ (iz = 4 → vz = .bool q1) ∧ (iz = 5 → vz = .agg #[.int .i64 z2.kind, .string z2.name, .slice ga9 z2.args.length gc9]) ∧ (iz = 6 → RowLi z2 wz vz) ∧ (iz = 7 → vz = .agg #[.int .i64 z3.kind, .string z3.name, .slice ga10 z3.args.length gc10]) ∧ (iz = 8 → RowLi z3 wz vz) ∧ (iz = 9 → vz = .bool q1) ∧ (iz = 10 → vz = .bool true) ∧ (iz = 11 → vz = .bool true) ∧ (iz = 12 → vz = .agg #[.int .i64 z2.kind, .string z2.name, .slice ga9 z2.args.length gc9]) ∧ (iz = 13 → vz = .string t2) ∧ (iz = 14 → vz = .bool true) ∧ (iz = 15 → vz = .bool true) ∧ (iz = 16 → vz = .bool true)) (fun w' => Below w13.heap.size w13 w') (Below.drew (Below.refl _ _)) ⟨?s0, ?s1, ?s2, ?s3, ?s4, ?s5, ?s6, ?s7, ?s8, ?s9, ?s10, ?s11, ?s12, ?s13, ?s14, ?s15, ?s16, trivial⟩ ?fin
    case s0 =>
      intro a w' hoff hg hdep K hK
      have h12 := off_at hoff 12 (v := .pointer (some ⟨k2, 0, none⟩)) (by kernel_rfl) rfl
      rw [if_pos (by rfl)]
      obtain ⟨l0, l1, l2⟩ := (M2.out.on hg).cells; obtain ⟨m0, m1, m2⟩ := (M3.out.on hg).cells
      go_simp
      exact hK.out _ _ hg ⟨fun _ => rfl, nn, nn, nn, nn, nn, nn, nn, nn, nn, nn, nn, nn, nn, nn, nn, nn⟩ (fun _ _ h => h)
    case s1 =>
      intro a w' hoff hg hdep K hK
      obtain ⟨v0, e0, f0⟩ := hdep 0 _ 41 (by kernel_rfl) rfl rfl
      obtain rfl := (f0.1 rfl).symm
      rw [if_pos (by rfl)]
      go_simp
      refine (prLi_any z2 (fun b => b < w'.heap.size) w' _ _ _ (fun _ h => h) (Nat.lt_of_lt_of_le HG.out (Below.step B13.out hg).size) (HT.out.below HG.out (Below.step B13.out hg)) (RepLi.on (S' := fun b => b < w'.heap.size) (fun k hk => Nat.lt_of_lt_of_le hk hg.size) (fun k hk => hg.block k hk) R2.out) (fun h => showLi_fits h)).mono ?_
      rw [T2.out]
      rintro e w2' ⟨rfl, hb⟩
      exact hK.out _ _ (Below.step hg hb) ⟨nn, fun _ => rfl, nn, nn, nn, nn, nn, nn, nn, nn, nn, nn, nn, nn, nn, nn, nn⟩ (fun _ _ h => ⟨h.1, h.2.1, h.2.2.1, h.2.2.2.1, h.2.2.2.2.1, h.2.2.2.2.2.1, fun e => RowLi.stay hb (h.2.2.2.2.2.2.1 e), h.2.2.2.2.2.2.2.1, fun e => RowLi.stay hb (h.2.2.2.2.2.2.2.2.1 e), h.2.2.2.2.2.2.2.2.2.1, h.2.2.2.2.2.2.2.2.2.2.1, h.2.2.2.2.2.2.2.2.2.2.2.1, h.2.2.2.2.2.2.2.2.2.2.2.2.1, h.2.2.2.2.2.2.2.2.2.2.2.2.2.1, h.2.2.2.2.2.2.2.2.2.2.2.2.2.2.1, h.2.2.2.2.2.2.2.2.2.2.2.2.2.2.2.1, h.2.2.2.2.2.2.2.2.2.2.2.2.2.2.2.2⟩)
    case s2 =>
      intro a w' hoff hg hdep K hK
      have h13 := off_at hoff 13 (v := .pointer (some ⟨k3, 0, none⟩)) (by kernel_rfl) rfl
      rw [if_pos (by rfl)]
      obtain ⟨l0, l1, l2⟩ := (M2.out.on hg).cells; obtain ⟨m0, m1, m2⟩ := (M3.out.on hg).cells
      go_simp
      exact hK.out _ _ hg ⟨nn, nn, fun _ => rfl, nn, nn, nn, nn, nn, nn, nn, nn, nn, nn, nn, nn, nn, nn⟩ (fun _ _ h => h)
    case s3 =>
      intro a w' hoff hg hdep K hK
      obtain ⟨v2, e2, f2⟩ := hdep 2 _ 43 (by kernel_rfl) rfl rfl
      obtain rfl := (f2.2.2.1 rfl).symm
      rw [if_pos (by rfl)]
      go_simp
      refine (prLi_any z3 (fun b => b < w'.heap.size) w' _ _ _ (fun _ h => h) (Nat.lt_of_lt_of_le HG.out (Below.step B13.out hg).size) (HT.out.below HG.out (Below.step B13.out hg)) (RepLi.on (S' := fun b => b < w'.heap.size) (fun k hk => Nat.lt_of_lt_of_le hk hg.size) (fun k hk => hg.block k hk) R3.out) (fun h => showLi_fits h)).mono ?_
      rw [T3.out]
      rintro e w2' ⟨rfl, hb⟩
      exact hK.out _ _ (Below.step hg hb) ⟨nn, nn, nn, fun _ => rfl, nn, nn, nn, nn, nn, nn, nn, nn, nn, nn, nn, nn, nn⟩ (fun _ _ h => ⟨h.1, h.2.1, h.2.2.1, h.2.2.2.1, h.2.2.2.2.1, h.2.2.2.2.2.1, fun e => RowLi.stay hb (h.2.2.2.2.2.2.1 e), h.2.2.2.2.2.2.2.1, fun e => RowLi.stay hb (h.2.2.2.2.2.2.2.2.1 e), h.2.2.2.2.2.2.2.2.2.1, h.2.2.2.2.2.2.2.2.2.2.1, h.2.2.2.2.2.2.2.2.2.2.2.1, h.2.2.2.2.2.2.2.2.2.2.2.2.1, h.2.2.2.2.2.2.2.2.2.2.2.2.2.1, h.2.2.2.2.2.2.2.2.2.2.2.2.2.2.1, h.2.2.2.2.2.2.2.2.2.2.2.2.2.2.2.1, h.2.2.2.2.2.2.2.2.2.2.2.2.2.2.2.2⟩)
    case s4 =>
      intro a w' hoff hg hdep K hK
      obtain ⟨v1, e1, f1⟩ := hdep 1 _ 42 (by kernel_rfl) rfl rfl
      obtain rfl := (f1.2.1 rfl).symm
      obtain ⟨v3, e3, f3⟩ := hdep 3 _ 44 (by kernel_rfl) rfl rfl
      obtain rfl := (f3.2.2.2.1 rfl).symm
      rw [if_pos (by rfl)]
      have he := E1.out
      go_simp
      exact hK.out _ _ hg ⟨nn, nn, nn, nn, fun _ => rfl, nn, nn, nn, nn, nn, nn, nn, nn, nn, nn, nn, nn⟩ (fun _ _ h => h)
    case s5 =>
      intro a w' hoff hg hdep K hK
      have h12 := off_at hoff 12 (v := .pointer (some ⟨k2, 0, none⟩)) (by kernel_rfl) rfl
      rw [if_pos (by rfl)]
      obtain ⟨l0, l1, l2⟩ := (M2.out.on hg).cells; obtain ⟨m0, m1, m2⟩ := (M3.out.on hg).cells
      go_simp
      exact hK.out _ _ hg ⟨nn, nn, nn, nn, nn, fun _ => rfl, nn, nn, nn, nn, nn, nn, nn, nn, nn, nn, nn⟩ (fun _ _ h => h)
    case s6 =>
      intro a w' hoff hg hdep K hK
      obtain ⟨v5, e5, f5⟩ := hdep 5 _ 46 (by kernel_rfl) rfl rfl
      obtain rfl := (f5.2.2.2.2.2.1 rfl).symm
      rw [if_pos (by rfl)]
      go_simp
      have hb := below_alloc w' (.cells #[.int .i64 z2.kind, .string z2.name, .slice ga9 z2.args.length gc9] 41)
      have hp : RowLi z2 _ _ := ⟨_, _, _, rfl, rowLi_new (RepLi.on (S' := fun b => b < w'.heap.size) (fun k hk => Nat.lt_of_lt_of_le hk hg.size) (fun k hk => hg.block k hk) R2.out)⟩
      exact hK.out _ _ (Below.step hg hb) ⟨nn, nn, nn, nn, nn, nn, fun _ => hp, nn, nn, nn, nn, nn, nn, nn, nn, nn, nn⟩ (fun _ _ h => ⟨h.1, h.2.1, h.2.2.1, h.2.2.2.1, h.2.2.2.2.1, h.2.2.2.2.2.1, fun e => RowLi.stay hb (h.2.2.2.2.2.2.1 e), h.2.2.2.2.2.2.2.1, fun e => RowLi.stay hb (h.2.2.2.2.2.2.2.2.1 e), h.2.2.2.2.2.2.2.2.2.1, h.2.2.2.2.2.2.2.2.2.2.1, h.2.2.2.2.2.2.2.2.2.2.2.1, h.2.2.2.2.2.2.2.2.2.2.2.2.1, h.2.2.2.2.2.2.2.2.2.2.2.2.2.1, h.2.2.2.2.2.2.2.2.2.2.2.2.2.2.1, h.2.2.2.2.2.2.2.2.2.2.2.2.2.2.2.1, h.2.2.2.2.2.2.2.2.2.2.2.2.2.2.2.2⟩)
    case s7 =>
      intro a w' hoff hg hdep K hK
      have h13 := off_at hoff 13 (v := .pointer (some ⟨k3, 0, none⟩)) (by kernel_rfl) rfl
      rw [if_pos (by rfl)]
      obtain ⟨l0, l1, l2⟩ := (M2.out.on hg).cells; obtain ⟨m0, m1, m2⟩ := (M3.out.on hg).cells
      go_simp
      exact hK.out _ _ hg ⟨nn, nn, nn, nn, nn, nn, nn, fun _ => rfl, nn, nn, nn, nn, nn, nn, nn, nn, nn⟩ (fun _ _ h => h)
    case s8 =>
      intro a w' hoff hg hdep K hK
      obtain ⟨v7, e7, f7⟩ := hdep 7 _ 48 (by kernel_rfl) rfl rfl
      obtain rfl := (f7.2.2.2.2.2.2.2.1 rfl).symm
      rw [if_pos (by rfl)]
      go_simp
      have hb := below_alloc w' (.cells #[.int .i64 z3.kind, .string z3.name, .slice ga10 z3.args.length gc10] 41)
      have hp : RowLi z3 _ _ := ⟨_, _, _, rfl, rowLi_new (RepLi.on (S' := fun b => b < w'.heap.size) (fun k hk => Nat.lt_of_lt_of_le hk hg.size) (fun k hk => hg.block k hk) R3.out)⟩
      exact hK.out _ _ (Below.step hg hb) ⟨nn, nn, nn, nn, nn, nn, nn, nn, fun _ => hp, nn, nn, nn, nn, nn, nn, nn, nn⟩ (fun _ _ h => ⟨h.1, h.2.1, h.2.2.1, h.2.2.2.1, h.2.2.2.2.1, h.2.2.2.2.2.1, fun e => RowLi.stay hb (h.2.2.2.2.2.2.1 e), h.2.2.2.2.2.2.2.1, fun e => RowLi.stay hb (h.2.2.2.2.2.2.2.2.1 e), h.2.2.2.2.2.2.2.2.2.1, h.2.2.2.2.2.2.2.2.2.2.1, h.2.2.2.2.2.2.2.2.2.2.2.1, h.2.2.2.2.2.2.2.2.2.2.2.2.1, h.2.2.2.2.2.2.2.2.2.2.2.2.2.1, h.2.2.2.2.2.2.2.2.2.2.2.2.2.2.1, h.2.2.2.2.2.2.2.2.2.2.2.2.2.2.2.1, h.2.2.2.2.2.2.2.2.2.2.2.2.2.2.2.2⟩)
    case s9 =>
      intro a w' hoff hg hdep K hK
      obtain ⟨v6, e6, f6⟩ := hdep 6 _ 47 (by kernel_rfl) rfl rfl
      have g6 := f6.2.2.2.2.2.2.1 rfl
      obtain ⟨v8, e8, f8⟩ := hdep 8 _ 49 (by kernel_rfl) rfl rfl
      have g8 := f8.2.2.2.2.2.2.2.2.1 rfl
      obtain ⟨ra6, rn6, rc6, rfl, s6⟩ := g6
      obtain ⟨ra8, rn8, rc8, rfl, s8⟩ := g8
      rw [if_pos (by rfl)]
      go_simp
      refine (sameLis_any [z2] [z3] (fun b => b < w'.heap.size) w' _ _ (fun _ h => h) s6 s8).mono ?_
      rw [Q1.out]
      rintro e w2' ⟨rfl, hb⟩
      exact hK.out _ _ (Below.step hg hb) ⟨nn, nn, nn, nn, nn, nn, nn, nn, nn, fun _ => rfl, nn, nn, nn, nn, nn, nn, nn⟩ (fun _ _ h => ⟨h.1, h.2.1, h.2.2.1, h.2.2.2.1, h.2.2.2.2.1, h.2.2.2.2.2.1, fun e => RowLi.stay hb (h.2.2.2.2.2.2.1 e), h.2.2.2.2.2.2.2.1, fun e => RowLi.stay hb (h.2.2.2.2.2.2.2.2.1 e), h.2.2.2.2.2.2.2.2.2.1, h.2.2.2.2.2.2.2.2.2.2.1, h.2.2.2.2.2.2.2.2.2.2.2.1, h.2.2.2.2.2.2.2.2.2.2.2.2.1, h.2.2.2.2.2.2.2.2.2.2.2.2.2.1, h.2.2.2.2.2.2.2.2.2.2.2.2.2.2.1, h.2.2.2.2.2.2.2.2.2.2.2.2.2.2.2.1, h.2.2.2.2.2.2.2.2.2.2.2.2.2.2.2.2⟩)
    case s10 =>
      intro a w' hoff hg hdep K hK
      obtain ⟨v4, e4, f4⟩ := hdep 4 _ 45 (by kernel_rfl) rfl rfl
      obtain rfl := (f4.2.2.2.2.1 rfl).symm
      obtain ⟨v9, e9, f9⟩ := hdep 9 _ 50 (by kernel_rfl) rfl rfl
      obtain rfl := (f9.2.2.2.2.2.2.2.2.2.1 rfl).symm
      rw [if_pos (by rfl)]
      have hqq : (q1 == q1) = true := by simp
      go_simp
      exact hK.out _ _ hg ⟨nn, nn, nn, nn, nn, nn, nn, nn, nn, nn, fun _ => rfl, nn, nn, nn, nn, nn, nn⟩ (fun _ _ h => h)
    case s11 =>
      intro a w' hoff hg hdep K hK
      obtain ⟨v10, e10, f10⟩ := hdep 10 _ 51 (by kernel_rfl) rfl rfl
      obtain rfl := (f10.2.2.2.2.2.2.2.2.2.2.1 rfl).symm
      rw [if_pos (by rfl)]
      go_simp
      exact hK.out _ _ hg ⟨nn, nn, nn, nn, nn, nn, nn, nn, nn, nn, nn, fun _ => rfl, nn, nn, nn, nn, nn⟩ (fun _ _ h => h)
    case s12 =>
      intro a w' hoff hg hdep K hK
      have h12 := off_at hoff 12 (v := .pointer (some ⟨k2, 0, none⟩)) (by kernel_rfl) rfl
      obtain ⟨v11, e11, f11⟩ := hdep 11 _ 52 (by kernel_rfl) rfl rfl
      obtain rfl := (f11.2.2.2.2.2.2.2.2.2.2.2.1 rfl).symm
      rw [if_pos (by simp [Region.wanted, yielded, e11])]
      obtain ⟨l0, l1, l2⟩ := (M2.out.on hg).cells; obtain ⟨m0, m1, m2⟩ := (M3.out.on hg).cells
      go_simp
      exact hK.out _ _ hg ⟨nn, nn, nn, nn, nn, nn, nn, nn, nn, nn, nn, nn, fun _ => rfl, nn, nn, nn, nn⟩ (fun _ _ h => h)
    case s13 =>
      intro a w' hoff hg hdep K hK
      obtain ⟨v12, e12, f12⟩ := hdep 12 _ 53 (by kernel_rfl) rfl rfl
      obtain rfl := (f12.2.2.2.2.2.2.2.2.2.2.2.2.1 rfl).symm
      obtain ⟨v11, e11, f11⟩ := hdep 11 _ 52 (by kernel_rfl) rfl rfl
      obtain rfl := (f11.2.2.2.2.2.2.2.2.2.2.2.1 rfl).symm
      rw [if_pos (by simp [Region.wanted, yielded, e11])]
      go_simp
      refine (prLi_any z2 (fun b => b < w'.heap.size) w' _ _ _ (fun _ h => h) (Nat.lt_of_lt_of_le HG.out (Below.step B13.out hg).size) (HT.out.below HG.out (Below.step B13.out hg)) (RepLi.on (S' := fun b => b < w'.heap.size) (fun k hk => Nat.lt_of_lt_of_le hk hg.size) (fun k hk => hg.block k hk) R2.out) (fun h => showLi_fits h)).mono ?_
      rw [T2.out]
      rintro e w2' ⟨rfl, hb⟩
      exact hK.out _ _ (Below.step hg hb) ⟨nn, nn, nn, nn, nn, nn, nn, nn, nn, nn, nn, nn, nn, fun _ => rfl, nn, nn, nn⟩ (fun _ _ h => ⟨h.1, h.2.1, h.2.2.1, h.2.2.2.1, h.2.2.2.2.1, h.2.2.2.2.2.1, fun e => RowLi.stay hb (h.2.2.2.2.2.2.1 e), h.2.2.2.2.2.2.2.1, fun e => RowLi.stay hb (h.2.2.2.2.2.2.2.2.1 e), h.2.2.2.2.2.2.2.2.2.1, h.2.2.2.2.2.2.2.2.2.2.1, h.2.2.2.2.2.2.2.2.2.2.2.1, h.2.2.2.2.2.2.2.2.2.2.2.2.1, h.2.2.2.2.2.2.2.2.2.2.2.2.2.1, h.2.2.2.2.2.2.2.2.2.2.2.2.2.2.1, h.2.2.2.2.2.2.2.2.2.2.2.2.2.2.2.1, h.2.2.2.2.2.2.2.2.2.2.2.2.2.2.2.2⟩)
    case s14 =>
      intro a w' hoff hg hdep K hK
      obtain ⟨v13, e13, f13⟩ := hdep 13 _ 54 (by kernel_rfl) rfl rfl
      obtain rfl := (f13.2.2.2.2.2.2.2.2.2.2.2.2.2.1 rfl).symm
      obtain ⟨v11, e11, f11⟩ := hdep 11 _ 52 (by kernel_rfl) rfl rfl
      obtain rfl := (f11.2.2.2.2.2.2.2.2.2.2.2.1 rfl).symm
      rw [if_pos (by simp [Region.wanted, yielded, e11])]
      have hn := N1.out
      go_simp
      exact hK.out _ _ hg ⟨nn, nn, nn, nn, nn, nn, nn, nn, nn, nn, nn, nn, nn, nn, fun _ => rfl, nn, nn⟩ (fun _ _ h => h)
    case s15 =>
      intro a w' hoff hg hdep K hK
      obtain ⟨v11, e11, f11⟩ := hdep 11 _ 52 (by kernel_rfl) rfl rfl
      obtain rfl := (f11.2.2.2.2.2.2.2.2.2.2.2.1 rfl).symm
      obtain ⟨v14, e14, f14⟩ := hdep 14 _ 55 (by kernel_rfl) rfl rfl
      obtain rfl := (f14.2.2.2.2.2.2.2.2.2.2.2.2.2.2.1 rfl).symm
      rw [if_pos (by rfl)]
      go_simp
      exact hK.out _ _ hg ⟨nn, nn, nn, nn, nn, nn, nn, nn, nn, nn, nn, nn, nn, nn, nn, fun _ => rfl, nn⟩ (fun _ _ h => h)
    case s16 =>
      intro a w' hoff hg hdep K hK
      obtain ⟨v15, e15, f15⟩ := hdep 15 _ 56 (by kernel_rfl) rfl rfl
      obtain rfl := (f15.2.2.2.2.2.2.2.2.2.2.2.2.2.2.2.1 rfl).symm
      rw [if_pos (by rfl)]
      go_simp
      exact hK.out _ _ hg ⟨nn, nn, nn, nn, nn, nn, nn, nn, nn, nn, nn, nn, nn, nn, nn, nn, fun _ => rfl⟩ (fun _ _ h => h)
    case fin =>
      intro a w14 hoff hg hf
      obtain ⟨v0, e0, f0⟩ := hf 0 _ 41 rfl rfl
      obtain rfl := (f0.1 rfl).symm
      obtain ⟨v1, e1, f1⟩ := hf 1 _ 42 rfl rfl
      obtain rfl := (f1.2.1 rfl).symm
      obtain ⟨v2, e2, f2⟩ := hf 2 _ 43 rfl rfl
      obtain rfl := (f2.2.2.1 rfl).symm
      obtain ⟨v3, e3, f3⟩ := hf 3 _ 44 rfl rfl
      obtain rfl := (f3.2.2.2.1 rfl).symm
      obtain ⟨v4, e4, f4⟩ := hf 4 _ 45 rfl rfl
      obtain rfl := (f4.2.2.2.2.1 rfl).symm
      obtain ⟨v5, e5, f5⟩ := hf 5 _ 46 rfl rfl
      obtain rfl := (f5.2.2.2.2.2.1 rfl).symm
      obtain ⟨v6, e6, f6⟩ := hf 6 _ 47 rfl rfl
      have g6 := f6.2.2.2.2.2.2.1 rfl
      obtain ⟨v7, e7, f7⟩ := hf 7 _ 48 rfl rfl
      obtain rfl := (f7.2.2.2.2.2.2.2.1 rfl).symm
      obtain ⟨v8, e8, f8⟩ := hf 8 _ 49 rfl rfl
      have g8 := f8.2.2.2.2.2.2.2.2.1 rfl
      obtain ⟨v9, e9, f9⟩ := hf 9 _ 50 rfl rfl
      obtain rfl := (f9.2.2.2.2.2.2.2.2.2.1 rfl).symm
      obtain ⟨v10, e10, f10⟩ := hf 10 _ 51 rfl rfl
      obtain rfl := (f10.2.2.2.2.2.2.2.2.2.2.1 rfl).symm
      obtain ⟨v11, e11, f11⟩ := hf 11 _ 52 rfl rfl
      obtain rfl := (f11.2.2.2.2.2.2.2.2.2.2.2.1 rfl).symm
      obtain ⟨v12, e12, f12⟩ := hf 12 _ 53 rfl rfl
      obtain rfl := (f12.2.2.2.2.2.2.2.2.2.2.2.2.1 rfl).symm
      obtain ⟨v13, e13, f13⟩ := hf 13 _ 54 rfl rfl
      obtain rfl := (f13.2.2.2.2.2.2.2.2.2.2.2.2.2.1 rfl).symm
      obtain ⟨v14, e14, f14⟩ := hf 14 _ 55 rfl rfl
      obtain rfl := (f14.2.2.2.2.2.2.2.2.2.2.2.2.2.2.1 rfl).symm
      obtain ⟨v15, e15, f15⟩ := hf 15 _ 56 rfl rfl
      obtain rfl := (f15.2.2.2.2.2.2.2.2.2.2.2.2.2.2.2.1 rfl).symm
      obtain ⟨v16, e16, f16⟩ := hf 16 _ 15 rfl rfl
      obtain rfl := (f16.2.2.2.2.2.2.2.2.2.2.2.2.2.2.2.2 rfl).symm
      rw [hoff.sets [(41, .agg #[.int .i64 z2.kind, .string z2.name, .slice ga9 z2.args.length gc9]), (42, .string t2), (43, .agg #[.int .i64 z3.kind, .string z3.name, .slice ga10 z3.args.length gc10]), (44, .string t3), (45, .bool q1), (46, .agg #[.int .i64 z2.kind, .string z2.name, .slice ga9 z2.args.length gc9]), (47, v6), (48, .agg #[.int .i64 z3.kind, .string z3.name, .slice ga10 z3.args.length gc10]), (49, v8), (50, .bool q1), (51, .bool true), (52, .bool true), (53, .agg #[.int .i64 z2.kind, .string z2.name, .slice ga9 z2.args.length gc9]), (54, .string t2), (55, .bool true), (56, .bool true), (15, .bool true)] (by kernel_rfl) (by intro p hp; simp only [List.mem_cons, List.not_mem_nil, or_false] at hp; rcases hp with rfl | rfl | rfl | rfl | rfl | rfl | rfl | rfl | rfl | rfl | rfl | rfl | rfl | rfl | rfl | rfl | rfl <;> assumption)]
      clear hoff hf e0 f0 e1 f1 e2 f2 e3 f3 e4 f4 e5 f5 e6 f6 e7 f7 e8 f8 e9 f9 e10 f10 e11 f11 e12 f12 e13 f13 e14 f14 e15 f15 e16 f16
      simp only [List.foldl_cons, List.foldl_nil, List.setIfInBounds_toArray, List.set_cons_zero, List.set_cons_succ]
      have BZ := Below.step B13.out hg
      clear hg
      go_wp2_with fail
      go_ret
      exact ⟨rfl, BZ⟩

end Go.Proofs.YtgjemmdhamkngaaGreatDoor.printerTerms
