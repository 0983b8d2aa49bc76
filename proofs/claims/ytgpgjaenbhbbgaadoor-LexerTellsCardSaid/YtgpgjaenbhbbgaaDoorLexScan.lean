/-
  lexer.Scan, as a contract.
-/
import Derived.Test.YtgpgjaenbhbbgaaDoorLexToken
import Derived.Maps.AppendAt
import Derived.WalkSmall
import Derived.Lib.SliceRun
namespace Go.Proofs.YtgpgjaenbhbbgaaDoor
open Go.RowKit

def tokCells (x : Tok) : List Value := [.int .i64 x.kind, .string ⟨x.text.toArray⟩, .int .i64 x.num, .int .i64 x.line, .int .i64 x.col]
def toksCells (l : List Tok) : List Value := l.flatMap tokCells
theorem toksCells_length : ∀ l : List Tok, (toksCells l).length = l.length * 5
  | [] => rfl
  | x :: l => by
    have := toksCells_length l
    simp only [toksCells, List.flatMap_cons, List.length_append, List.length_cons] at this ⊢
    rw [this]; simp [tokCells]; omega
theorem toksCells_snoc (l : List Tok) (x : Tok) : toksCells (l ++ [x]) = toksCells l ++ tokCells x := by simp [toksCells]
theorem infoToken : (Tryd.prog.info? 71).map (fun i => (i.zero, i.size, i.bytes)) = some (some (.agg #[.int .i64 0, .string ⟨#[]⟩, .int .i64 0, .int .i64 0, .int .i64 0]), 5, 48) := by kernel_rfl

/-- The call's own row of tokens. -/
def OwnT (w : World) (base : Nat) (v : Value) (l : List Tok) : Prop := w.ownsRow base 71 5 v l.length (toksCells l)
theorem OwnT.form {w : World} {base : Nat} {l : List Tok} {v : Value} (h : OwnT w base v l) : ∃ a cap, v = .slice a l.length cap := by
  obtain ⟨_, hown⟩ := h
  rcases hown with ⟨rfl, hn⟩ | ⟨g, cap, cur, rfl, _⟩
  · exact ⟨none, 0, by rw [hn]⟩
  · exact ⟨_, _, rfl⟩
theorem OwnT.lies {w : World} {base : Nat} {l : List Tok} {v : Value} (h : OwnT w base v l) (k : Nat) (hk : v.ownBlock = some k) : base ≤ k ∧ k < w.heap.size := by
  obtain ⟨_, hown⟩ := h
  rcases hown with ⟨rfl, hn⟩ | ⟨g, cap, cur, rfl, hbg, hh, _⟩
  · simp [Value.ownBlock] at hk
  · simp [Value.ownBlock] at hk
    subst hk
    exact ⟨hbg, (Array.getElem?_eq_some_iff.1 hh).1⟩
theorem OwnT.on {w w' : World} {base : Nat} {l : List Tok} {v : Value} (h : OwnT w base v l) (ho : ∀ k, base ≤ k → k < w.heap.size → v.ownBlock = some k → w'.heap[k]? = w.heap[k]?) : OwnT w' base v l := by
  obtain ⟨hlen, hown⟩ := h
  refine ⟨hlen, ?_⟩
  rcases hown with h | ⟨g, cap, cur, rfl, hbg, hh, r⟩
  · exact .inl h
  · exact .inr ⟨g, cap, cur, rfl, hbg, (ho g hbg (Array.getElem?_eq_some_iff.1 hh).1 rfl).trans hh, r⟩
theorem OwnT.stands {w w' : World} {base : Nat} {l : List Tok} {v : Value} (h : OwnT w base v l) (hb : Below w.heap.size w w') : OwnT w' base v l := h.on fun k _ hk _ => hb.block k hk
theorem OwnT.down {w : World} {base base' : Nat} {l : List Tok} {v : Value} (h : OwnT w base v l) (hb : base' ≤ base) : OwnT w base' v l := by
  obtain ⟨hlen, hown⟩ := h
  refine ⟨hlen, ?_⟩
  rcases hown with h | ⟨g, cap, cur, rfl, hbg, r⟩
  · exact .inl h
  · exact .inr ⟨g, cap, cur, rfl, by omega, r⟩
theorem OwnT.far {w : World} {base : Nat} {l : List Tok} {v : Value} (h : OwnT w base v l) {p : Addr} (hp : p.block < base) (c : Value) : OwnT (w.setCell p c) base v l := h.on fun k hk _ _ => Below.heap_setCell _ _ _ _ (by omega)
/-- The i-th token's cells. -/
theorem OwnT.at {w : World} {base : Nat} {l : List Tok} {a : Option Addr} {n cap : Nat} (h : OwnT w base (.slice a n cap) l) : n = l.length ∧ l.length ≤ cap ∧ (0 < l.length → ∃ b, base ≤ b ∧ b < w.heap.size ∧ a = some ⟨b, 0, none⟩ ∧
    ∀ i (hi : i < l.length), w.cell? ⟨b, i * 5, none⟩ = some (.int .i64 l[i].kind) ∧ w.cell? ⟨b, i * 5 + 1, none⟩ = some (.string ⟨l[i].text.toArray⟩) ∧ w.cell? ⟨b, i * 5 + 2, none⟩ = some (.int .i64 l[i].num) ∧ w.cell? ⟨b, i * 5 + 3, none⟩ = some (.int .i64 l[i].line) ∧ w.cell? ⟨b, i * 5 + 4, none⟩ = some (.int .i64 l[i].col)) := by
  obtain ⟨hlen, hown⟩ := h
  rcases hown with ⟨h1, hn⟩ | ⟨g, cap', cur, h1, hbg, hh, hnc, hcm, hcs, htk⟩
  · cases h1
    exact ⟨hn.symm, by omega, fun h => by omega⟩
  · cases h1
    refine ⟨rfl, hnc, fun _ => ⟨g, hbg, (Array.getElem?_eq_some_iff.1 hh).1, rfl, fun i hi => ?_⟩⟩
    have key : ∀ j v, (toksCells l)[j]? = some v → w.cell? ⟨g, j, none⟩ = some v := by
      intro j v hv
      have hj : j < l.length * 5 := by
        have := (List.getElem?_eq_some_iff.1 hv).1
        rwa [hlen] at this
      rw [← htk, List.getElem?_take, if_pos hj] at hv
      exact cell_of_block' hh v (by rw [← Array.getElem?_toList]; exact hv)
    have hat : ∀ j, j < 5 → (toksCells l)[i * 5 + j]? = (tokCells l[i])[j]? := by
      intro j hj
      have hsp : toksCells l = toksCells (l.take i) ++ (tokCells l[i] ++ toksCells (l.drop (i + 1))) := by
        have e : l = l.take i ++ l[i] :: l.drop (i + 1) := by rw [← List.drop_eq_getElem_cons hi, List.take_append_drop]
        have e2 := congrArg toksCells e
        rw [e2]
        simp only [toksCells, List.flatMap_append, List.flatMap_cons]
      have hl1 : (toksCells (l.take i)).length = i * 5 := by rw [toksCells_length, List.length_take]; omega
      rw [hsp, List.getElem?_append_right (by omega), hl1, show i * 5 + j - i * 5 = j by omega, List.getElem?_append_left (by simp [tokCells]; omega)]
    refine ⟨key _ _ ((hat 0 (by omega)).trans rfl), key _ _ ((hat 1 (by omega)).trans rfl), key _ _ ((hat 2 (by omega)).trans rfl), key _ _ ((hat 3 (by omega)).trans rfl), key _ _ ((hat 4 (by omega)).trans rfl)⟩

theorem add_lit0 (b j : Nat) : ((⟨b, 0, none⟩ : Addr).add j) = ⟨b, j, none⟩ := by unfold Addr.add; split <;> simp_all
/-- 'append(out, t)'. -/
theorem tok_append {W : World} {base : Nat} {l : List Tok} {v : Value} (hown : OwnT W base v l) (hbase : base ≤ W.heap.size) (hlen : l.length ≤ 1000000) (x : Tok) (ty : TypeId) :
    ∃ (a : Option Addr) (n cap : Nat) (w6 : World), (Builtin.append_ #[43, 43] ty #[v, .slice (some ⟨W.heap.size, 0, none⟩) 1 1]).run Tryd.prog (W.alloc (.cells #[.int .i64 x.kind, .string ⟨x.text.toArray⟩, .int .i64 x.num, .int .i64 x.line, .int .i64 x.col] 71)) = .ok (.slice a n cap) w6 ∧
      OwnT w6 base (.slice a n cap) (l ++ [x]) ∧ Below base W w6 := by
  obtain ⟨i0, hi, hz0, hz1, hz2⟩ := info_parts infoToken
  have hbW := stands_alloc W (.cells #[.int .i64 x.kind, .string ⟨x.text.toArray⟩, .int .i64 x.num, .int .i64 x.line, .int .i64 x.col] 71)
  have hsW := World.size_alloc W (.cells #[.int .i64 x.kind, .string ⟨x.text.toArray⟩, .int .i64 x.num, .int .i64 x.line, .int .i64 x.col] 71)
  have hnew := alloc_new' W (.cells #[.int .i64 x.kind, .string ⟨x.text.toArray⟩, .int .i64 x.num, .int .i64 x.line, .int .i64 x.col] 71)
  generalize W.alloc (.cells #[.int .i64 x.kind, .string ⟨x.text.toArray⟩, .int .i64 x.num, .int .i64 x.line, .int .i64 x.col] 71) = W' at *
  have hm := hown.stands hbW
  obtain ⟨v', w6, hrun, h1, h2, _, h5⟩ := run_append_own_at (P := Tryd.prog) W' base 43 ty 71 i0 _ 5 48 Tryd.underlying43 hi hz0 hz1 hz2 rfl (by decide) v l.length (toksCells l) hm ⟨W.heap.size, 0, none⟩ 1 1 (tokCells x) rfl
    (fun j u hj => by
      have e : ((⟨W.heap.size, 0, none⟩ : Addr).add j) = ⟨W.heap.size, j, none⟩ := add_lit0 _ _
      rw [e]
      exact cell_of_block' hnew u (by rw [← hj]; simp [tokCells]))
    (fun u hu => by simp [tokCells] at hu; rcases hu with rfl | rfl | rfl | rfl | rfl <;> rfl) (by unfold maxLen; omega) (by omega) (by omega)
  have ho : OwnT w6 base v' (l ++ [x]) := by
    show w6.ownsRow _ _ _ _ _ _
    rw [List.length_append, toksCells_snoc]; exact h1
  obtain ⟨a, cap, rfl⟩ := ho.form
  have hgs := h2.size
  refine ⟨a, _, cap, w6, hrun, ho, h2.os.trans hbW.os, h2.tape.trans hbW.tape, h2.output.trans hbW.output, by omega, fun k hk => ?_⟩
  exact (h2.block k (by omega) (fun e => by have := (OwnT.lies hown k e.symm).1; omega)).trans (hbW.block k (by omega))

/-- What Scan answers. -/
def ScanPost (r : Res) (w : World) (e : Ending) (w' : World) : Prop :=
  match r with
  | .bad line col => e = .returned (.tuple #[.slice none 0 0, .int .i64 30, .agg #[.int .i64 line, .int .i64 col]]) ∧ Below w.heap.size w w'
  | .ok toks => ∃ v, e = .returned (.tuple #[v, .int .i64 0, .agg #[.int .i64 0, .int .i64 0]]) ∧ OwnT w' w.heap.size v toks ∧ Below w.heap.size w w'

/-- A place in a variable of its own. -/
def Boxed2 (w : World) (k : Nat) (c0 c1 : Value) : Prop := w.heap[k]? = some (.cells #[c0, c1] 46 (0, 0))
theorem Boxed2.cells {w : World} {k : Nat} {c0 c1 : Value} (h : Boxed2 w k c0 c1) : w.cell? ⟨k, 0, none⟩ = some c0 ∧ w.cell? ⟨k, 1, none⟩ = some c1 := ⟨cell_of_block' h _ rfl, cell_of_block' h _ rfl⟩
theorem Boxed2.lt {w : World} {k : Nat} {c0 c1 : Value} (h : Boxed2 w k c0 c1) : k < w.heap.size := (Array.getElem?_eq_some_iff.1 h).1
theorem Boxed2.on {w w' : World} {k : Nat} {c0 c1 : Value} (h : Boxed2 w k c0 c1) (hb : Below w.heap.size w w') : Boxed2 w' k c0 c1 := (hb.block k h.lt).trans h
theorem boxed2_new (w : World) (c0 c1 : Value) : Boxed2 (w.alloc (.cells #[c0, c1] 46)) w.heap.size c0 c1 := alloc_new' _ _
theorem stored2 {W w : World} (hw : Below W.heap.size W w) (k : Nat) (hk : W.heap.size ≤ k) (c0 c1 : Value) : Below W.heap.size W ((w.setCell ⟨k, 0, none⟩ c0).setCell ⟨k, 1, none⟩ c1) :=
  (hw.setCell (p := ⟨k, 0, none⟩) hk c0).setCell (p := ⟨k, 1, none⟩) hk c1

end Go.Proofs.YtgpgjaenbhbbgaaDoor
