/-
  lexer's table of signs, as a row lists it.
-/
import Derived.Test.YtgpgjaenbhbbgaaDoorLexData
import Derived.Lib.LaidTab
import Derived.WalkSmall
namespace Go.Proofs.YtgpgjaenbhbbgaaDoor
open Go.RowKit

def strsData {H : Type} (ss : List (List UInt8)) : DataW H := .agg (ss.map fun s => .lit (.string s))
def strsCells (ss : List (List UInt8)) : List Value := ss.map fun s => Value.string ⟨s.toArray⟩

/-- An array of strings that reads as such a table holds its texts, cell for cell. -/
theorem cells_of_strs {H : Type} {enc : TypeId × Value → H} {P : Program} {w : World} {base : Nat} {sp : Nat → Bool} {held : Bool} {fuel : Nat} {t e : TypeId} {n : Nat} {cs : List Value} {ss : List (List UInt8)} {p : List MemPlace}
    (ht : P.underlying t = some (.array n e)) (he : P.underlying e = some .string) (hce : P.cellsOf e = 1) (hct : P.cellsOf t = n)
    (h : DataW.trod enc P w base sp held fuel t cs = some (strsData ss, p)) : cs = strsCells ss := by
  cases fuel with
  | zero => simp [DataW.trod] at h
  | succ fuel =>
    simp only [DataW.trod, ht, hce, hct, Nat.mul_one] at h
    split at h
    · rename_i hl
      obtain ⟨xs, hm, hx⟩ := Option.map_eq_some_iff.1 h
      have hxs : xs.map (·.1) = ss.map fun s => (DataW.lit (.string s) : DataW H) := by
        have := congrArg Prod.fst hx
        simpa [strsData] using this
      have hxl : xs.length = n := by simpa using Lib.mapM_length hm
      have hzl : ss.length = n := by
        have := congrArg List.length hxs
        simp at this
        omega
      apply List.ext_getElem?
      intro i
      by_cases hi : i < n
      · obtain ⟨b, hb, hf⟩ := Lib.mapM_at hm i i (by simp [hi])
        obtain ⟨z, hc, rfl, _⟩ := DataW.trod_string he hf
        have h1 : cs[i]? = some (.string z) := by
          have := congrArg (·[0]?) hc
          simpa [List.getElem?_take, List.getElem?_drop] using this
        have h2 : (xs.map (·.1))[i]? = some (DataW.lit (.string z.data.toList) : DataW H) := by simp [hb]
        rw [hxs] at h2
        simp only [List.getElem?_map, Option.map_eq_some_iff, DataW.lit.injEq, Lit.string.injEq] at h2
        obtain ⟨z', hz', e⟩ := h2
        rw [strsCells, List.getElem?_map, hz', h1, Option.map_some, e]
      · rw [List.getElem?_eq_none (by omega), List.getElem?_eq_none (by simp [strsCells]; omega)]
    · cases h

/-- The table of signs stands as the program's text lays it. -/
def SignsOk (w : World) : Prop := w.var? Tryd.prog "beaconry/lexer.signs" = some (strsCells signsL).toArray
theorem gSigns : Tryd.prog.globalNamed "beaconry/lexer.signs" = some 0 := by kernel_rfl
theorem gSignsType : (Tryd.prog.globals[0]?).map (·.type) = some 100 := by kernel_rfl
theorem cellsSigns : Tryd.prog.cellsOf 100 = 19 := by kernel_rfl
theorem cellsString' : Tryd.prog.cellsOf 9 = 1 := by kernel_rfl
theorem strs_of_laid {P : Program} {W : World} {name : String} {ss : List (List UInt8)} {g : Nat} {t e : TypeId} {n : Nat}
    (hg : P.globalNamed name = some g) (hty : (P.globals[g]?).map (·.type) = some t) (ht : P.underlying t = some (.array n e)) (he : P.underlying e = some .string) (hce : P.cellsOf e = 1) (hct : P.cellsOf t = n) :
    ∀ (laid : List (String × DataW Unit)) (ps : List MemPlace), DataW.LaidVars P W laid ps → (name, strsData ss) ∈ laid → W.var? P name = some (strsCells ss).toArray
  | [], _, _, hm => by cases hm
  | x :: rest, ps, h, hm => by
    obtain ⟨g', t', cs, fuel, p, q, hg', ht', hvar, hd, hq, _⟩ := h
    rcases List.mem_cons.1 hm with rfl | hm
    · obtain rfl := Option.some.inj (hg.symm.trans hg')
      obtain rfl := Option.some.inj (hty.symm.trans ht')
      rw [hvar, ← cells_of_strs ht he hce hct hd]
    · exact strs_of_laid hg hty ht he hce hct rest q hq hm
theorem SignsOk.below {w w' : World} (h : SignsOk w) (hg : 0 < w.heap.size) (hb : Below w.heap.size w w') : SignsOk w' := var?_below hb gSigns hg h
theorem SignsOk.cell {w : World} (h : SignsOk w) (i : Nat) (hi : i < signsL.length) : w.cell? ⟨0, i, none⟩ = some (.string ⟨(signsL[i]).toArray⟩) := by
  have := World.var?_cell gSigns h i
  simpa [strsCells, hi] using this

end Go.Proofs.YtgpgjaenbhbbgaaDoor
