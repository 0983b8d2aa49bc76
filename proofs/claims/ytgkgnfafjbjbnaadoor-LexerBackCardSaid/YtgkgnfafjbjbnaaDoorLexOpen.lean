/-
  Layer 3's arguments that came in: rows of texts, raw tokens.
-/
import Derived.Test.YtgkgnfafjbjbnaaDoorLexLaw
import Derived.Deep.Strs
namespace Go.Proofs.YtgkgnfafjbjbnaaDoor
open Go.ChangeShapes Go.WideShapes Go.ChangeAt Go.RowKit Go.Deep Go.Joins

/-- A slice of texts that may be read. -/
def RepT (w : World) (ss : List ByteArray) (v : Value) : Prop :=
  ∃ (a : Option Addr) (b o cap : Nat), v = .slice a ss.length cap ∧ ss.length ≤ cap ∧ cap ≤ maxLen ∧ (0 < ss.length → a = some ⟨b, o, none⟩ ∧ b < w.heap.size) ∧
    ∀ i (h : i < ss.length), w.cell? ⟨b, o + i, none⟩ = some (.string ss[i]) ∧ ss[i].size ≤ maxLen
theorem RepT.on {w w' : World} {ss : List ByteArray} {v : Value} (h : RepT w ss v) (hb : Below w.heap.size w w') : RepT w' ss v := by
  obtain ⟨a, b, o, cap, h1, h2, h3, h4, h5⟩ := h
  refine ⟨a, b, o, cap, h1, h2, h3, fun h => ⟨(h4 h).1, Nat.lt_of_lt_of_le (h4 h).2 hb.size⟩, fun i hi => ⟨?_, (h5 i hi).2⟩⟩
  exact (hb.cell (p := ⟨b, o + i, none⟩) (h4 (by omega)).2).trans (h5 i hi).1

section
variable {H : Type} {enc : TypeId × Value → H}
set_option maxRecDepth 100000 in
theorem open_texts {W : World} {base : Nat} {v : Value} {d : DataW H} {p : List MemPlace} (hv : Value.okWide Tryd.prog W .any base 36 v) (h : DataW.Trod enc Tryd.prog W 0 (fun _ => true) true 36 v d p) (_hf : Fits Tryd.prog 36 d) :
    ∃ ss, RepT W ss v := by
  obtain ⟨a0, len, cap, rfl⟩ := okWide_slice Tryd.underlying36 hv
  obtain ⟨fuel, hf'⟩ := h
  rcases open_strs Tryd.underlying36 Tryd.underlying9 cellsString' hf' with ⟨hc, _⟩ | ⟨a, len', cap', m, Sx, hc, hb, hl, hm, hmm, hx, hall⟩
  · simp [Value.cells] at hc
    obtain ⟨rfl, rfl, rfl⟩ := hc
    exact ⟨[], none, 0, 0, 0, rfl, Nat.le_refl _, Nat.zero_le _, fun h => by simp at h, fun i hi => by simp at hi⟩
  · simp [Value.cells] at hc
    obtain ⟨rfl, rfl, rfl⟩ := hc
    simp only [if_true] at hmm
    subst hmm
    have hspot : 0 < len → a.spot = none := fun h0 => by
      have := World.cell?_spot (hall 0 (by omega)).1
      simpa [Addr.add] using this
    have hlt : 0 < len → a.block < W.heap.size := fun h0 => by
      have := cell_lt (hall 0 (by omega)).1
      simpa [add_block] using this
    obtain ⟨ab, ao, sp⟩ := a
    refine ⟨(List.range len).map Sx, some ⟨ab, ao, sp⟩, ab, ao, m, by simp, by simp; omega, hm, fun h0 => ?_, fun i hi => ?_⟩
    · have h0' : 0 < len := by simpa using h0
      have := hspot h0'
      simp at this
      subst this
      exact ⟨rfl, hlt h0'⟩
    · have hi' : i < len := by simpa using hi
      have h0' : 0 < len := by omega
      have hs := hspot h0'
      simp at hs
      subst hs
      obtain ⟨g1, g2⟩ := hall i (by omega)
      rw [add_lit' ] at g1
      exact ⟨by rw [g1]; simp, by simpa using g2⟩

structure Raw where
  kind : Int
  s : ByteArray
  n : Int
def RawOk (x : Raw) : Prop := I64 x.kind ∧ x.s.size ≤ 140737488351232 ∧ I64 x.n
/-- A slice of raw tokens that may be read. -/
def RepR (w : World) (l : List Raw) (v : Value) : Prop :=
  ∃ (a : Option Addr) (b o cap : Nat), v = .slice a l.length cap ∧ l.length ≤ cap ∧ cap ≤ maxLen ∧ (0 < l.length → a = some ⟨b, o, none⟩ ∧ b < w.heap.size) ∧
    ∀ i (h : i < l.length), w.cell? ⟨b, o + i * 3, none⟩ = some (.int .i64 l[i].kind) ∧ w.cell? ⟨b, o + i * 3 + 1, none⟩ = some (.string l[i].s) ∧ w.cell? ⟨b, o + i * 3 + 2, none⟩ = some (.int .i64 l[i].n) ∧ RawOk l[i]
theorem RepR.on {w w' : World} {l : List Raw} {v : Value} (h : RepR w l v) (hb : Below w.heap.size w w') : RepR w' l v := by
  obtain ⟨a, b, o, cap, h1, h2, h3, h4, h5⟩ := h
  refine ⟨a, b, o, cap, h1, h2, h3, fun h => ⟨(h4 h).1, Nat.lt_of_lt_of_le (h4 h).2 hb.size⟩, fun i hi => ?_⟩
  have hlt := (h4 (by omega)).2
  obtain ⟨g0, g1, g2, g3⟩ := h5 i hi
  exact ⟨(hb.cell (p := ⟨b, _, none⟩) hlt).trans g0, (hb.cell (p := ⟨b, _, none⟩) hlt).trans g1, (hb.cell (p := ⟨b, _, none⟩) hlt).trans g2, g3⟩
theorem fits_raw {a b c : DataW H} (h : Fits Tryd.prog 56 (.agg [a, b, c])) : Fits Tryd.prog 9 b := fun n hn => h n (by
  simp only [DataW.weights, Tryd.underlying56, List.map_cons, List.map_nil, DataW.weightsEach, List.mem_append]
  exact Or.inr (Or.inl hn))
theorem cellsRaw : Tryd.prog.cellsOf 56 = 3 := by kernel_rfl
theorem bytesRaw : Tryd.prog.bytesOf 56 = 32 := by kernel_rfl
set_option maxRecDepth 100000 in
theorem raw_of_trod {W : World} (d : DataW H) (fuel : Nat) (cs : List Value) (ps : List MemPlace) (h : DataW.trod enc Tryd.prog W 0 (fun _ => true) true fuel 56 cs = some (d, ps)) (hf : Fits Tryd.prog 56 d) :
    ∃ x : Raw, cs = [.int .i64 x.kind, .string x.s, .int .i64 x.n] ∧ RawOk x := by
  obtain ⟨y0, y1, y2, n, hx, hlen, h0, h1, h2⟩ := trod_struct3 Tryd.underlying56 h
  rw [cellsRaw] at hlen
  match cs, hlen with
  | [c0, c1, c2], _ =>
    simp only [Prod.mk.injEq] at hx
    simp [cellsInt] at h0
    simp [cellsString] at h1
    simp [cellsInt] at h2
    obtain ⟨k, e0, r0, w0⟩ := DataW.trod_int Tryd.underlying3 h0
    obtain ⟨s, e1, r1, w1⟩ := DataW.trod_string Tryd.underlying9 h1
    obtain ⟨m, e2, r2, w2⟩ := DataW.trod_int Tryd.underlying3 h2
    simp at e0 e1 e2
    subst e0 e1 e2
    have hd : d = .agg [y0.1, y1.1, y2.1] := by simpa using hx.1
    subst hd
    have hfs := fits_raw hf
    have hs : s.size ≤ 140737488351232 := by
      have e : y1.1 = .lit (.string s.data.toList) := congrArg Prod.fst r1
      rw [e] at hfs
      have := hfs _ (by simp [DataW.weights]; rfl)
      simpa [reachBytes] using this
    exact ⟨⟨k, s, m⟩, rfl, i64_wf w0, hs, i64_wf w2⟩
set_option maxRecDepth 100000 in
theorem open_raw {W : World} {base : Nat} {v : Value} {d : DataW H} {p : List MemPlace} (hv : Value.okWide Tryd.prog W .any base 56 v) (h : DataW.Trod enc Tryd.prog W 0 (fun _ => true) true 56 v d p) (hf : Fits Tryd.prog 56 d) :
    ∃ x : Raw, v = .agg #[.int .i64 x.kind, .string x.s, .int .i64 x.n] ∧ RawOk x := by
  obtain ⟨cs, rfl, hsz⟩ := okWide_struct Tryd.underlying56 hv
  obtain ⟨fuel, hf'⟩ := h
  obtain ⟨x, he, hr⟩ := raw_of_trod d fuel _ p hf' hf
  refine ⟨x, ?_, hr⟩
  congr 1
  exact Array.toList_inj.1 (by simpa [Value.cells] using he)
theorem cells3 {w : World} {a : Addr} {cs : List Value} (h : w.cells? 0 a 3 = some cs) : ∃ c0 c1 c2, cs = [c0, c1, c2] ∧ a.spot = none ∧ w.cell? ⟨a.block, a.off, none⟩ = some c0 ∧ w.cell? ⟨a.block, a.off + 1, none⟩ = some c1 ∧ w.cell? ⟨a.block, a.off + 2, none⟩ = some c2 := by
  obtain ⟨_, hlen, hcell⟩ := World.cells?_some h
  obtain ⟨b, o, sp⟩ := a
  match cs, hlen with
  | [c0, c1, c2], _ =>
    have hsp : sp = none := by simpa [Addr.add] using World.cell?_spot (hcell 0 (by omega))
    subst hsp
    exact ⟨c0, c1, c2, rfl, rfl, by simpa [Addr.add] using hcell 0 (by omega), by simpa [Addr.add] using hcell 1 (by omega), by simpa [Addr.add] using hcell 2 (by omega)⟩
theorem fits_raws {elems spare : List (DataW H)} (h : Fits Tryd.prog 53 (.slice elems spare)) : ∀ d ∈ elems, Fits Tryd.prog 56 d := by
  simp only [Fits, DataW.weights, Tryd.underlying53, bytesRaw] at h
  exact fun d hd n hn => h n (List.mem_cons_of_mem _ (List.mem_append_left _ (weightsAll_mem hd n hn)))
set_option maxRecDepth 100000 in
theorem open_raws {W : World} {base : Nat} {v : Value} {d : DataW H} {p : List MemPlace} (hv : Value.okWide Tryd.prog W .any base 53 v) (h : DataW.Trod enc Tryd.prog W 0 (fun _ => true) true 53 v d p) (hf : Fits Tryd.prog 53 d) :
    ∃ l, RepR W l v := by
  obtain ⟨a0, len0, cap0, rfl⟩ := okWide_slice Tryd.underlying53 hv
  obtain ⟨fuel, hf'⟩ := h
  rcases open_slice Tryd.underlying53 hf' with ⟨hc, hx⟩ | ⟨a, len, cap, mm, n, D, Pl, hc, _, hl, hm, hmm, hx, hall⟩
  · simp [Value.cells] at hc
    obtain ⟨rfl, rfl, rfl⟩ := hc
    exact ⟨[], none, 0, 0, 0, rfl, Nat.le_refl _, Nat.zero_le _, fun h => by simp at h, fun i hi => by simp at hi⟩
  · simp [Value.cells] at hc
    obtain ⟨rfl, rfl, rfl⟩ := hc
    simp only [if_true] at hmm
    subst hmm
    simp only [Prod.mk.injEq] at hx
    obtain ⟨hd, _⟩ := hx
    rw [cellsRaw] at hall
    have hfv := hf
    rw [hd] at hfv
    have hfe := fits_raws hfv
    have key : ∀ i : Nat, ∃ x : Raw, i < len0 → W.cell? ⟨a.block, a.off + i * 3, none⟩ = some (.int .i64 x.kind) ∧ W.cell? ⟨a.block, a.off + i * 3 + 1, none⟩ = some (.string x.s) ∧ W.cell? ⟨a.block, a.off + i * 3 + 2, none⟩ = some (.int .i64 x.n) ∧ RawOk x := by
      intro i
      by_cases hi : i < len0
      · obtain ⟨cs', g1, g2⟩ := hall i (by omega)
        obtain ⟨x, rfl, hr⟩ := raw_of_trod (D i) n cs' (Pl i) g2 (hfe _ (List.mem_map_of_mem (List.mem_range.2 hi)))
        obtain ⟨d0, d1, d2, he, hsp, q0, q1, q2⟩ := cells3 g1
        simp only [List.cons.injEq, and_true] at he
        obtain ⟨rfl, rfl, rfl⟩ := he
        rw [add_block, add_off] at q0 q1 q2
        exact ⟨x, fun _ => ⟨q0, q1, q2, hr⟩⟩
      · exact ⟨⟨0, ⟨#[]⟩, 0⟩, fun h => absurd h hi⟩
    obtain ⟨X, hX⟩ := Classical.axiomOfChoice key
    have hspot : 0 < len0 → a.spot = none := fun h0 => by
      obtain ⟨cs', g1, g2⟩ := hall 0 (by omega)
      obtain ⟨d0, d1, d2, he, hsp, _⟩ := cells3 g1
      simpa [Addr.add] using hsp
    obtain ⟨ab, ao, sp⟩ := a
    refine ⟨(List.range len0).map X, some ⟨ab, ao, sp⟩, ab, ao, mm, by simp, by simp; omega, hm, fun h0 => ?_, fun i hi => ?_⟩
    · have h0' : 0 < len0 := by simpa using h0
      have := hspot h0'
      simp at this
      subst this
      exact ⟨rfl, cell_lt (hX 0 h0').1⟩
    · have hi' : i < len0 := by simpa using hi
      rw [List.getElem_map, List.getElem_range]
      exact hX i hi'
end

end Go.Proofs.YtgkgnfafjbjbnaaDoor
