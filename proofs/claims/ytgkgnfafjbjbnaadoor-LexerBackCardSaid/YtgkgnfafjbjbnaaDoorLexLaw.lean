/-
  For layer 3's laws: tokens that are read, the law's own 'Words', the table of signs off a row.
-/
import Derived.Test.YtgkgnfafjbjbnaaDoorLexAwake
import Derived.Test.YtgkgnfafjbjbnaaDoorLaw
import Derived.BigQuiet
namespace Go.Proofs.YtgkgnfafjbjbnaaDoor
open Go.ChangeShapes Go.WideShapes Go.ChangeAt Go.RowKit

theorem signsOk_of_laid {W : World} {laid : List (String × DataW Unit)} (h : laidMet Tryd.prog laid W) (hm : ("beaconry/lexer.signs", Rows.laid_beaconry_lexer_signs) ∈ laid) : SignsOk W := by
  obtain ⟨ps, h1, _⟩ := h
  exact strs_of_laid gSigns gSignsType Tryd.underlying110 Tryd.underlying9 cellsString' cellsSigns laid ps h1 hm
theorem signs_lt {W : World} (h : SignsOk W) : 0 < W.heap.size := by
  have := h.cell 0 (by decide)
  exact cell_lt this
/-- A world for the witnesses: the settled one, the table of signs holding what its initialiser lays. -/
noncomputable def laidWorld3 (os : Os) : World :=
  setTab (World.holding Tryd.prog os ⟨#[], #[], []⟩) 0 signCells

/-- A slice of tokens that may be read. -/
def TokAt (w : World) (v : Value) (l : List Tok) : Prop := ∃ (a : Option Addr) (cap : Nat), v = .slice a l.length cap ∧ l.length ≤ cap ∧ (0 < l.length → ∃ b, b < w.heap.size ∧ a = some ⟨b, 0, none⟩ ∧
    ∀ i (hi : i < l.length), w.cell? ⟨b, i * 5, none⟩ = some (.int .i64 l[i].kind) ∧ w.cell? ⟨b, i * 5 + 1, none⟩ = some (.string ⟨l[i].text.toArray⟩) ∧ w.cell? ⟨b, i * 5 + 2, none⟩ = some (.int .i64 l[i].num) ∧ w.cell? ⟨b, i * 5 + 3, none⟩ = some (.int .i64 l[i].line) ∧ w.cell? ⟨b, i * 5 + 4, none⟩ = some (.int .i64 l[i].col))
theorem OwnT.tok {w : World} {base : Nat} {l : List Tok} {v : Value} (h : OwnT w base v l) : TokAt w v l := by
  obtain ⟨a, cap, rfl⟩ := h.form
  obtain ⟨-, h2, h3⟩ := h.at
  refine ⟨a, cap, rfl, h2, fun h => ?_⟩
  obtain ⟨b, -, h4, h5, h6⟩ := h3 h
  exact ⟨b, h4, h5, h6⟩
theorem TokAt.on {w w' : World} {l : List Tok} {v : Value} (h : TokAt w v l) (hb : Below w.heap.size w w') : TokAt w' v l := by
  obtain ⟨a, cap, h1, h2, h3⟩ := h
  refine ⟨a, cap, h1, h2, fun h => ?_⟩
  obtain ⟨b, h4, h5, h6⟩ := h3 h
  have hc : ∀ j, w'.cell? ⟨b, j, none⟩ = w.cell? ⟨b, j, none⟩ := fun j => hb.cell (p := ⟨b, j, none⟩) h4
  exact ⟨b, Nat.lt_of_lt_of_le h4 hb.size, h5, fun i hi => by
    obtain ⟨g0, g1, g2, g3, g4⟩ := h6 i hi
    exact ⟨(hc _).trans g0, (hc _).trans g1, (hc _).trans g2, (hc _).trans g3, (hc _).trans g4⟩⟩

set_option maxRecDepth 100000 in
set_option maxHeartbeats 8000000 in
theorem words_any (l m : List Tok) (w : World) (v u : Value) (hl : TokAt w v l) (hm : TokAt w u m) (h : m.map strip = l.map strip) (hb : l.length ≤ 1000000) :
    Calls Tryd.prog 38 #[v, u] w fun e w' => e = .returned (.bool true) ∧ Below w.heap.size w w' := by
  obtain ⟨a, cap, rfl, hc1, hl'⟩ := hl
  obtain ⟨a', cap', rfl, hc2, hm'⟩ := hm
  have hlen : m.length = l.length := by simpa using congrArg List.length h
  have HL := Lib.hid hl'; have HM := Lib.hid hm'; have HS := Lib.hid h
  rw [hlen] at hc2 ⊢
  have HLEN := Lib.hid hlen
  clear hl' hm' h hlen
  go_enter Tryd.func38, Tryd.ntmps38
  go_wp2_with fail
  go_loopw [5] (fun i wr => ∃ k : Nat, k ≤ l.length ∧ i = .int .i64 k ∧ Below w.heap.size w wr) (fun i _ => l.length - (intOf i).toNat)
  case atStart => exact ⟨0, Nat.zero_le _, rfl, Below.refl _ _⟩
  case round =>
    obtain ⟨k, hk, rfl, hbel⟩ := hrel
    by_cases hlt : k < l.length
    · obtain ⟨b, hb1, rfl, hcl⟩ := HL.out (by omega)
      obtain ⟨b', hb2, rfl, hcm⟩ := HM.out (by rw [HLEN.out]; omega)
      have hk' : k < m.length := by rw [HLEN.out]; exact hlt
      have he : strip m[k] = strip l[k] := by
        have := congrArg (·[k]?) HS.out
        simpa [hlt, hk'] using this
      simp only [strip, Prod.mk.injEq] at he
      obtain ⟨e1, e2, e3⟩ := he
      obtain ⟨g0, g1, g2, -, -⟩ := hcl k hlt
      obtain ⟨f0, f1, f2, -, -⟩ := hcm k hk'
      rw [e1] at f0; rw [e2] at f1; rw [e3] at f2
      have q0 := (hbel.cell (p := ⟨b, k * 5, none⟩) hb1).trans g0
      have q1 := (hbel.cell (p := ⟨b, k * 5 + 1, none⟩) hb1).trans g1
      have q2 := (hbel.cell (p := ⟨b, k * 5 + 2, none⟩) hb1).trans g2
      have p0 := (hbel.cell (p := ⟨b', k * 5, none⟩) hb2).trans f0
      have p1 := (hbel.cell (p := ⟨b', k * 5 + 1, none⟩) hb2).trans f1
      have p2 := (hbel.cell (p := ⟨b', k * 5 + 2, none⟩) hb2).trans f2
      generalize l[k] = x at *
      have HBEL := Lib.hid hbel
      clear hcl hcm e1 e2 e3 g0 g1 g2 f0 f1 f2 hbel
      go_wp2_with fail
      go_quiet (fail)
      go_wp2_with fail
      go_roundw
      case rel => exact ⟨k + 1, by omega, by go_num, below_drewN HBEL.out _⟩
      case measure => simp [intOf]; omega
    · have HBEL := Lib.hid hbel
      clear hbel
      go_wp2_with fail
      go_ret
      exact ⟨rfl, HBEL.out⟩

end Go.Proofs.YtgkgnfafjbjbnaaDoor
