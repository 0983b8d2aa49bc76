/-
  For layer 3's laws: tokens that are read, the law's own 'Words', the table of signs off a row.
-/
import Derived.Test.YtgpgjaenbhbbgaaDoorLexAwake
import Derived.Test.YtgpgjaenbhbbgaaDoorLaw
import Derived.BigQuiet
namespace Go.Proofs.YtgpgjaenbhbbgaaDoor
open Go.ChangeShapes Go.WideShapes Go.ChangeAt Go.RowKit

theorem signsOk_of_laid {W : World} {laid : List (String × DataW Unit)} (h : laidMet Tryd.prog laid W) (hm : ("beaconry/lexer.signs", Rows.laid_beaconry_lexer_signs) ∈ laid) : SignsOk W := by
  obtain ⟨ps, h1, _⟩ := h
  exact strs_of_laid gSigns gSignsType Tryd.underlying100 Tryd.underlying9 cellsString' cellsSigns laid ps h1 hm
theorem signs_lt {W : World} (h : SignsOk W) : 0 < W.heap.size := by
  have := h.cell 0 (by decide)
  exact cell_lt this
/-- A world for the witnesses: the settled one, the table of signs holding what its initialiser lays. -/
noncomputable def laidWorld3 (os : Os) : World :=
  setTab (World.holding Tryd.prog os ⟨#[], #[], []⟩) 0 signCells

/-- A slice of tokens that may be read. -/
def TokAt (w : World) (v : Value) (l : List Tok) : Prop := ∃ (a : Option Addr) (cap : Nat), v = .slice a l.length cap ∧ l.length ≤ cap ∧ (0 < l.length → ∃ b, b < w.heap.size ∧ a = some ⟨b, 0, none⟩ ∧
    ∀ i (hi : i < l.length), w.cell? ⟨b, i * 5, none⟩ = some (.int .i64 l[i].kind) ∧ w.cell? ⟨b, i * 5 + 1, none⟩ = some (.string ⟨l[i].text.toArray⟩) ∧ w.cell? ⟨b, i * 5 + 2, none⟩ = some (.int .i64 l[i].num) ∧ w.cell? ⟨b, i * 5 + 3, none⟩ = some (.int .i64 l[i].line) ∧ w.cell? ⟨b, i * 5 + 4, none⟩ = some (.int .i64 l[i].col))
theorem OwnT.tok {w : World} {base : Nat} {l : List Tok} {v : Value} (h : OwnT w base v l) : TokAt w v l := by
  obtain ⟨a, cap, rfl⟩ := h.form
  obtain ⟨-, h2, h3⟩ := h.at
  refine ⟨a, cap, rfl, h2, fun h => ?_⟩
  obtain ⟨b, -, h4, h5, h6⟩ := h3 h
  exact ⟨b, h4, h5, h6⟩
theorem TokAt.on {w w' : World} {l : List Tok} {v : Value} (h : TokAt w v l) (hb : Below w.heap.size w w') : TokAt w' v l := by
  obtain ⟨a, cap, h1, h2, h3⟩ := h
  refine ⟨a, cap, h1, h2, fun h => ?_⟩
  obtain ⟨b, h4, h5, h6⟩ := h3 h
  have hc : ∀ j, w'.cell? ⟨b, j, none⟩ = w.cell? ⟨b, j, none⟩ := fun j => hb.cell (p := ⟨b, j, none⟩) h4
  exact ⟨b, Nat.lt_of_lt_of_le h4 hb.size, h5, fun i hi => by
    obtain ⟨g0, g1, g2, g3, g4⟩ := h6 i hi
    exact ⟨(hc _).trans g0, (hc _).trans g1, (hc _).trans g2, (hc _).trans g3, (hc _).trans g4⟩⟩

end Go.Proofs.YtgpgjaenbhbbgaaDoor
