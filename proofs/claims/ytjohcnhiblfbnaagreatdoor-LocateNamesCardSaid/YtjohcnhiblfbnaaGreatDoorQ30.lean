/-
  LawBase, SetOff
-/
import Derived.Test.YtjohcnhiblfbnaaGreatDoorQ13
import Derived.Test.YtjohcnhiblfbnaaGreatDoorQ29
import Derived.Test.YtjohcnhiblfbnaaGreatDoorCards
import Derived.Test.YtjohcnhiblfbnaaGreatDoorTie
import Derived.Test.YtjohcnhiblfbnaaGreatDoorQ04
import Derived.Lib.LaidTab
namespace Go.Proofs.YtjohcnhiblfbnaaGreatDoor
open Go.ChangeShapes Go.WideShapes Go.ChangeAt Go.RowKit
theorem gTabType : (Tryz.prog.globals[0]?).map (·.type) = some 221 := by kernel_rfl
theorem cellsTab : Tryz.prog.cellsOf 221 = 20 := by kernel_rfl
theorem cellsU64 : Tryz.prog.cellsOf 214 = 1 := by kernel_rfl
theorem tab_of_laid {P : Program} {W : World} {name : String} {k : IntKind} {zs : List Int} {g : Nat} {t e : TypeId} {n : Nat}
  (hg : P.globalNamed name = some g) (hty : (P.globals[g]?).map (·.type) = some t) (ht : P.underlying t = some (.array n e)) (he : P.underlying e = some (.int k)) (hce : P.cellsOf e = 1) (hct : P.cellsOf t = n) :
  ∀ (laid : List (String × DataW Unit)) (ps : List MemPlace), DataW.LaidVars P W laid ps → (name, Lib.tabData k zs) ∈ laid → Lib.TabIs P W name k zs
 | [], _, _, hm => by cases hm
 | x :: rest, ps, h, hm => by
  obtain ⟨g', t', cs, fuel, p, q, hg', ht', hvar, hd, hq, _⟩ := h
  rcases List.mem_cons.1 hm with rfl | hm
  ·obtain rfl := Option.some.inj (hg.symm.trans hg')
   obtain rfl := Option.some.inj (hty.symm.trans ht')
   unfold Lib.TabIs
   rw [hvar, ← Lib.cells_of_tab ht he hce hct hd]
  ·exact tab_of_laid hg hty ht he hce hct rest q hq hm
theorem tabOk_of_laid {W : World} {laid : List (String × DataW Unit)} (h : laidMet Tryz.prog laid W) (hm : ("internal/strconv.uint64pow10", Rows.laid_internal_strconv_uint64pow10) ∈ laid) : TabOk W := by
 obtain ⟨ps, h1, _⟩ := h
 exact tab_of_laid gTab gTabType Tryz.underlying221 Tryz.underlying214 cellsU64 cellsTab laid ps h1 hm
theorem tab_lt {W : World} (h : TabOk W) : 0 < W.heap.size := by
 have := Lib.TabIs.cell h gTab 0 (by decide)
 exact cell_lt this
def setTab (w : World) (g : Nat) (cs : Array Value) : World :=
 { w with heap := w.heap.modify g fun
   | .cells _ t frozen => .cells cs t frozen
   | o => o }
noncomputable def laidWorld (os : Os) : World :=
 setTab (setTab (setTab (World.holding Tryz.prog os ⟨#[], #[], []⟩)
  0 #[.int .u64 1, .int .u64 10, .int .u64 100, .int .u64 1000, .int .u64 10000, .int .u64 100000, .int .u64 1000000, .int .u64 10000000, .int .u64 100000000, .int .u64 1000000000, .int .u64 10000000000, .int .u64 100000000000, .int .u64 1000000000000, .int .u64 10000000000000, .int .u64 100000000000000, .int .u64 1000000000000000, .int .u64 10000000000000000, .int .u64 100000000000000000, .int .u64 1000000000000000000, .int .u64 10000000000000000000])
  1 #[.int .u8 0, .int .u8 1, .int .u8 28, .int .u8 2, .int .u8 29, .int .u8 14, .int .u8 24, .int .u8 3, .int .u8 30, .int .u8 22, .int .u8 20, .int .u8 15, .int .u8 25, .int .u8 17, .int .u8 4, .int .u8 8, .int .u8 31, .int .u8 27, .int .u8 13, .int .u8 23, .int .u8 21, .int .u8 19, .int .u8 16, .int .u8 7, .int .u8 26, .int .u8 12, .int .u8 18, .int .u8 6, .int .u8 11, .int .u8 5, .int .u8 10, .int .u8 9])
  2 #[.int .u8 0, .int .u8 1, .int .u8 56, .int .u8 2, .int .u8 57, .int .u8 49, .int .u8 28, .int .u8 3, .int .u8 61, .int .u8 58, .int .u8 42, .int .u8 50, .int .u8 38, .int .u8 29, .int .u8 17, .int .u8 4, .int .u8 62, .int .u8 47, .int .u8 59, .int .u8 36, .int .u8 45, .int .u8 43, .int .u8 51, .int .u8 22, .int .u8 53, .int .u8 39, .int .u8 33, .int .u8 30, .int .u8 24, .int .u8 18, .int .u8 12, .int .u8 5, .int .u8 63, .int .u8 55, .int .u8 48, .int .u8 27, .int .u8 60, .int .u8 41, .int .u8 37, .int .u8 16, .int .u8 46, .int .u8 35, .int .u8 44, .int .u8 21, .int .u8 52, .int .u8 32, .int .u8 23, .int .u8 11, .int .u8 54, .int .u8 26, .int .u8 40, .int .u8 15, .int .u8 34, .int .u8 20, .int .u8 31, .int .u8 10, .int .u8 25, .int .u8 14, .int .u8 19, .int .u8 9, .int .u8 13, .int .u8 8, .int .u8 7, .int .u8 6]
end Go.Proofs.YtjohcnhiblfbnaaGreatDoor
namespace Go.Proofs.YtjohcnhiblfbnaaGreatDoor
open Go.RowKit
def SX (k B : Nat) (T : TypeId) (w : World) (b : Nat) : Prop := b < k ∨ (B ≤ b ∧ b < w.heap.size ∧ ∀ cs fz, w.heap[b]? ≠ some (.cells cs T fz))
theorem SX.on {k B b : Nat} {T : TypeId} {w w' : World} (hb : Below w.heap.size w w') (h : SX k B T w b) : SX k B T w' b := by
 rcases h with h | ⟨h1, h2, h3⟩
 ·exact .inl h
 ·exact .inr ⟨h1, Nat.lt_of_lt_of_le h2 hb.size, fun cs fz => by rw [hb.block b h2]; exact h3 cs fz⟩
theorem SX.lt {k B b : Nat} {T : TypeId} {w : World} (hk : k ≤ w.heap.size) (h : SX k B T w b) : b < w.heap.size := by
 rcases h with h | h
 ·exact Nat.lt_of_lt_of_le h hk
 ·exact h.2.1
theorem SX.keep {k B b : Nat} {T : TypeId} {w w' : World} (hk : k ≤ w.heap.size) (hb : Below w.heap.size w w') (h : SX k B T w b) : w'.heap[b]? = w.heap[b]? := hb.block b (h.lt hk)
theorem SX.off {k B q : Nat} {T : TypeId} {w w' : World} {cs : Array Value} {fz : Nat × Nat} (hq : w.heap[q]? = some (.cells cs T fz)) (hk : k ≤ q) (hw : ∀ j, j ≠ q → w'.heap[j]? = w.heap[j]?) (hs : w'.heap.size = w.heap.size) : (∀ b, SX k B T w b → SX k B T w' b) ∧ ∀ b, SX k B T w b → w'.heap[b]? = w.heap[b]? := by
 have hne : ∀ b, SX k B T w b → b ≠ q := by
  rintro b (h | ⟨-, -, h⟩) e
  ·omega
  ·rw [e] at h; exact h _ _ hq
 refine ⟨fun b hb => ?_, fun b hb => hw b (hne b hb)⟩
 have := hne b hb
 rcases hb with h | ⟨h1, h2, h3⟩
 ·exact .inl h
 ·exact .inr ⟨h1, by rw [hs]; exact h2, fun cs fz => by rw [hw b this]; exact h3 cs fz⟩
end Go.Proofs.YtjohcnhiblfbnaaGreatDoor
