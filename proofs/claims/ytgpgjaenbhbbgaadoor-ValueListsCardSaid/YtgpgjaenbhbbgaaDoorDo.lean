/-
  What builtin's functions do, one by one: size, first, last, rest.
-/
import Derived.Test.YtgpgjaenbhbbgaaDoorConcat
import Derived.StillTailTactics
namespace Go.Proofs.YtgpgjaenbhbbgaaDoor
open Go.RowKit

def zeroV : V := .mk 0 0 ⟨#[]⟩ []
def listV (l : List V) : V := .mk 4 0 ⟨#[]⟩ l
def numV (n : Int) : V := .mk 1 n ⟨#[]⟩ []
theorem rep_list {S : Nat → Prop} {w : World} {l : List V} {r : Value} (h : RepLG S w l r) : RepG S w (listV l) (.int .i64 4) (.int .i64 0) (.string ⟨#[]⟩) r :=
  repG_mk.2 ⟨rfl, rfl, rfl, ⟨by omega, by omega⟩, ⟨by omega, by omega⟩, by unfold maxLen; simp [ByteArray.size], h⟩
theorem rep_nil {S : Nat → Prop} {w : World} : RepLG S w [] (.slice none 0 0) := ⟨none, 0, 0, 0, rfl, Nat.le_refl _, by simp, fun h => by omega, fun h => by simp at h, fun i hi => by simp at hi⟩
theorem rep_zero {S : Nat → Prop} {w : World} : RepG S w zeroV (.int .i64 0) (.int .i64 0) (.string ⟨#[]⟩) (.slice none 0 0) :=
  repG_mk.2 ⟨rfl, rfl, rfl, ⟨by omega, by omega⟩, ⟨by omega, by omega⟩, by unfold maxLen; simp [ByteArray.size], rep_nil⟩
theorem rep_num {S : Nat → Prop} {w : World} {n : Int} (h : I64 n) : RepG S w (numV n) (.int .i64 1) (.int .i64 n) (.string ⟨#[]⟩) (.slice none 0 0) :=
  repG_mk.2 ⟨rfl, rfl, rfl, ⟨by omega, by omega⟩, h, by unfold maxLen; simp [ByteArray.size], rep_nil⟩

/-- A value comes out, and all that lay there stands. -/
def DoPost (x : V) (w : World) (e : Ending) (w' : World) : Prop := ∃ c0 c1 c2 c3, e = .returned (.agg #[c0, c1, c2, c3]) ∧ RepV w'.heap.size w' x c0 c1 c2 c3 ∧ Below w.heap.size w w'

/-- The cells of one element. -/
theorem RepLG.at {S : Nat → Prop} {w : World} {l : List V} {a : Option Addr} {n cap : Nat} (h : RepLG S w l (.slice a n cap)) (i : Nat) (hi : i < l.length) :
    n = l.length ∧ l.length ≤ cap ∧ ∃ b o fa fc, a = some ⟨b, o, none⟩ ∧ S b ∧ w.cell? ⟨b, o + i * 4, none⟩ = some (.int .i64 l[i].kind) ∧ w.cell? ⟨b, o + i * 4 + 1, none⟩ = some (.int .i64 l[i].num) ∧ w.cell? ⟨b, o + i * 4 + 2, none⟩ = some (.string l[i].text) ∧
      w.cell? ⟨b, o + i * 4 + 3, none⟩ = some (.slice fa l[i].list.length fc) ∧ RepG S w l[i] (.int .i64 l[i].kind) (.int .i64 l[i].num) (.string l[i].text) (.slice fa l[i].list.length fc) := by
  obtain ⟨a', b, o, cap', e, h6, h7, h8, h9, h10⟩ := h
  cases e
  obtain ⟨x0, x1, x2, x3, g0, g1, g2, g3, g⟩ := h10 i hi
  obtain ⟨fa, fc, rfl, rfl, rfl, rfl⟩ := g.form
  exact ⟨rfl, h6, b, o, fa, fc, h8 (by omega), h9 (by omega), g0, g1, g2, g3, g⟩
/-- Its beginning. -/
theorem RepLG.front {S : Nat → Prop} {w : World} {l : List V} {a : Option Addr} {n cap : Nat} (h : RepLG S w l (.slice a n cap)) (k : Nat) (hk : k ≤ l.length) : RepLG S w (l.take k) (.slice a k cap) := by
  obtain ⟨a', b, o, cap', e, h6, h7, h8, h9, h10⟩ := h
  cases e
  have hl : (l.take k).length = k := by simp; omega
  refine ⟨a, b, o, cap, by rw [hl], by omega, by omega, h8, fun h => h9 (by omega), fun i hi => ?_⟩
  obtain ⟨x0, x1, x2, x3, g0, g1, g2, g3, g⟩ := h10 i (by omega)
  exact ⟨x0, x1, x2, x3, g0, g1, g2, g3, by rw [List.getElem_take]; exact g⟩
/-- What stands behind the first one. -/
theorem RepLG.behind {S : Nat → Prop} {w : World} {x : V} {l : List V} {b o n cap : Nat} (h : RepLG S w (x :: l) (.slice (some ⟨b, o, none⟩) n cap)) : RepLG S w l (.slice (some ⟨b, o + 4, none⟩) l.length (cap - 1)) := by
  obtain ⟨a', b', o', cap', e, h6, h7, h8, h9, h10⟩ := h
  cases e
  simp only [List.length_cons] at h6 h7 h8 h9 h10
  have e := h8 (by omega)
  cases e
  refine ⟨_, b, o + 4, cap - 1, rfl, by omega, by omega, fun _ => rfl, fun _ => h9 (by omega), fun i hi => ?_⟩
  obtain ⟨x0, x1, x2, x3, g0, g1, g2, g3, g⟩ := h10 (i + 1) (by omega)
  rw [show o + (i + 1) * 4 = o + 4 + i * 4 by omega] at g0 g1 g2 g3
  exact ⟨x0, x1, x2, x3, g0, g1, g2, g3, by simpa using g⟩

theorem sharing_any (w : World) (a : Option Addr) (n cap : Nat) : Calls Tryd.prog 95 #[.slice a n cap] w fun e w' => e = .returned (.agg #[.int .i64 4, .int .i64 0, .string ⟨#[]⟩, .slice a n cap]) ∧ Below w.heap.size w w' := by
  go_enter Tryd.func95, Tryd.ntmps95
  go_wp2
  exact bodyPost_ret (v := .agg #[.int .i64 4, .int .i64 0, .string ⟨#[]⟩, .slice a n cap]) (by simp [results, Tryd.results95, go_sem]) rfl ⟨rfl, (Below.refl _ _).alloc (Nat.le_refl _) _⟩

/-- The variable of a result: four stores into it. -/
theorem stored4 {W w : World} (hw : Below W.heap.size W w) (k : Nat) (hk : W.heap.size ≤ k) (c0 c1 c2 c3 : Value) : Below W.heap.size W ((((w.setCell ⟨k, 0, none⟩ c0).setCell ⟨k, 1, none⟩ c1).setCell ⟨k, 2, none⟩ c2).setCell ⟨k, 3, none⟩ c3) :=
  (((hw.setCell hk _).setCell hk _).setCell hk _).setCell hk _
theorem RepG.past4 {S : Nat → Prop} {w : World} {x : V} {c0 c1 c2 c3 : Value} (h : RepG S w x c0 c1 c2 c3) (k : Nat) (hk : ¬ S k) (hS : ∀ b, S b → b < w.heap.size) (d0 d1 d2 d3 : Value) :
    RepV ((((w.setCell ⟨k, 0, none⟩ d0).setCell ⟨k, 1, none⟩ d1).setCell ⟨k, 2, none⟩ d2).setCell ⟨k, 3, none⟩ d3).heap.size ((((w.setCell ⟨k, 0, none⟩ d0).setCell ⟨k, 1, none⟩ d1).setCell ⟨k, 2, none⟩ d2).setCell ⟨k, 3, none⟩ d3) x c0 c1 c2 c3 := by
  refine RepG.on (fun b hb => by simp [World.setCell]; exact hS b hb) (fun b hb => ?_) x h
  have h1 : b ≠ k := fun e => hk (e ▸ hb)
  rw [Below.heap_setCell _ _ _ _ (by simpa using h1), Below.heap_setCell _ _ _ _ (by simpa using h1), Below.heap_setCell _ _ _ _ (by simpa using h1), Below.heap_setCell _ _ _ _ (by simpa using h1)]

set_option maxRecDepth 100000 in
set_option maxHeartbeats 1000000 in
theorem size_any (x : V) (B : Nat) (w : World) (a : Value) (hB : B ≤ w.heap.size) (ha : RepL B w [x] a) :
    Calls Tryd.prog 69 #[a] w (DoPost (numV x.list.length) w) := by
  have hb1 : Below w.heap.size w (w.alloc (.cells #[.int .i64 0, .int .i64 0, .string ⟨#[]⟩, .slice none 0 0] 24)) := (Below.refl _ w).alloc (Nat.le_refl _) _
  have HX := Lib.hid (boxed_new w (.int .i64 0) (.int .i64 0) (.string ⟨#[]⟩) (.slice none 0 0))
  have HB1 := Lib.hid hb1
  obtain ⟨aa, ab, ao, ac, rfl, hac, -⟩ := id ha
  obtain ⟨-, -, b, o, fa, fc, rfl, hSb, g0, g1, g2, g3, g⟩ := RepLG.at (RepL.below (w' := (w.alloc (.cells #[.int .i64 0, .int .i64 0, .string ⟨#[]⟩, .slice none 0 0] 24))) (fun j hj => hb1.block j (by omega)) ha) 0 (by simp)
  simp only [List.getElem_cons_zero, Nat.zero_mul, Nat.add_zero] at g0 g1 g2 g3 g
  have hlen : x.list.length * 56 ≤ 140737488355328 := by obtain ⟨_, _, _, _, _, _, h, _⟩ := g.lst; exact h
  have hn : I64 x.list.length := ⟨by omega, by omega⟩
  have HN := Lib.hid hn
  clear ha g hn hb1
  go_enter Tryd.func69, Tryd.ntmps69
  go_wp2_with fail
  refine (number_any _ _).mono ?_
  rintro e w2 ⟨rfl, hb⟩
  have X2 := HX.out.on hb
  have HB2 := Lib.hid (Below.step HB1.out hb)
  obtain ⟨r0, r1, r2, r3⟩ := X2.cells
  have z0 := frozen_of_row w2 _ 0 _ _ X2
  have z1 := frozen_of_row w2 _ 1 _ _ X2
  have z2 := frozen_of_row w2 _ 2 _ _ X2
  have z3 := frozen_of_row w2 _ 3 _ _ X2
  clear g0 g1 g2 g3 X2 hb
  go_wp2_with fail
  refine bodyPost_ret (v := .agg #[.int .i64 1, .int .i64 x.list.length, .string ⟨#[]⟩, .slice none 0 0]) (by simp [results, Tryd.results69, go_sem, r0, r1, r2, r3]) rfl ?_
  exact ⟨_, _, _, _, rfl, rep_num HN.out, stored4 HB2.out _ (Nat.le_refl _) _ _ _ _⟩

end Go.Proofs.YtgpgjaenbhbbgaaDoor
