/-
  Tokens in memory, and lexer's readers of one token, as contracts.
-/
import Derived.Test.YtgpgjaenbhbbgaaDoorLexStep
import Derived.Test.YtgpgjaenbhbbgaaDoorSigns
import Derived.Test.YtgpgjaenbhbbgaaDoorRight
import Derived.Test.YtgpgjaenbhbbgaaDoorMakers
import Derived.Test.YtgpgjaenbhbbgaaDoorBoxed
import Derived.Test.YtgpgjaenbhbbgaaDoorDo
namespace Go.Proofs.YtgpgjaenbhbbgaaDoor
open Go.RowKit

/-- A token's cells. -/
def tokRow (k : Int) (s : ByteArray) (n a b : Int) : Array Value := #[.int .i64 k, .string s, .int .i64 n, .int .i64 a, .int .i64 b]
def readV : Option Read → Value
  | none => .tuple #[.agg #[.int .i64 0, .string ⟨#[]⟩, .int .i64 0, .int .i64 0, .int .i64 0], .int .i64 0]
  | some t => .tuple #[.agg #[.int .i64 t.kind, .string ⟨t.text.toArray⟩, .int .i64 t.num, .int .i64 0, .int .i64 0], .int .i64 t.len]
def ReadPost (r : Option Read) (w : World) (e : Ending) (w' : World) : Prop := e = .returned (readV r) ∧ Below w.heap.size w w'

/-- A token in a variable of its own. -/
def Boxed5 (w : World) (k : Nat) (c0 c1 c2 c3 c4 : Value) : Prop := w.heap[k]? = some (.cells #[c0, c1, c2, c3, c4] 71 (0, 0))
theorem Boxed5.cells {w : World} {k : Nat} {c0 c1 c2 c3 c4 : Value} (h : Boxed5 w k c0 c1 c2 c3 c4) : w.cell? ⟨k, 0, none⟩ = some c0 ∧ w.cell? ⟨k, 1, none⟩ = some c1 ∧ w.cell? ⟨k, 2, none⟩ = some c2 ∧ w.cell? ⟨k, 3, none⟩ = some c3 ∧ w.cell? ⟨k, 4, none⟩ = some c4 :=
  ⟨cell_of_block' h _ rfl, cell_of_block' h _ rfl, cell_of_block' h _ rfl, cell_of_block' h _ rfl, cell_of_block' h _ rfl⟩
theorem Boxed5.lt {w : World} {k : Nat} {c0 c1 c2 c3 c4 : Value} (h : Boxed5 w k c0 c1 c2 c3 c4) : k < w.heap.size := (Array.getElem?_eq_some_iff.1 h).1
theorem Boxed5.on {w w' : World} {k : Nat} {c0 c1 c2 c3 c4 : Value} (h : Boxed5 w k c0 c1 c2 c3 c4) (hb : Below w.heap.size w w') : Boxed5 w' k c0 c1 c2 c3 c4 := (hb.block k h.lt).trans h
theorem boxed5_new (w : World) (c0 c1 c2 c3 c4 : Value) : Boxed5 (w.alloc (.cells #[c0, c1, c2, c3, c4] 71)) w.heap.size c0 c1 c2 c3 c4 := alloc_new' _ _
theorem stored5 {W w : World} (hw : Below W.heap.size W w) (k : Nat) (hk : W.heap.size ≤ k) (c0 c1 c2 c3 c4 : Value) : Below W.heap.size W (((((w.setCell ⟨k, 0, none⟩ c0).setCell ⟨k, 1, none⟩ c1).setCell ⟨k, 2, none⟩ c2).setCell ⟨k, 3, none⟩ c3).setCell ⟨k, 4, none⟩ c4) :=
  (stored4 hw k hk c0 c1 c2 c3).setCell (p := ⟨k, 4, none⟩) hk c4

theorem span_size (g : Int → Bool) (s : ByteArray) : spanL g s.data.toList ≤ s.size := by
  have := spanL_le g s.data.toList
  rwa [list_len] at this
theorem span_take (g : Int → Bool) (s : ByteArray) : s.extract 0 (spanL g s.data.toList) = ⟨(s.data.toList.takeWhile (onB g)).toArray⟩ := by
  apply ByteArray.ext
  rw [ByteArray.data_extract]
  apply Array.toList_inj.1
  rw [Array.toList_extract]
  simp only [List.extract_eq_take_drop, Nat.sub_zero, List.drop_zero]
  exact (List.prefix_iff_eq_take.1 (List.takeWhile_prefix (onB g))).symm

set_option maxRecDepth 100000 in
set_option maxHeartbeats 2000000 in
theorem lname_any (s : ByteArray) (w : World) (hs : s.size ≤ maxLen) :
    Calls Tryd.prog 77 #[.string s] w (ReadPost (nameR s.data.toList) w) := by
  have HSZ := Lib.hid hs
  unfold maxLen at hs
  have hsp := span_size wordZ s
  have HST := Lib.hid (span_take wordZ s)
  have HSL : Hid (spanL wordZ s.data.toList = (s.data.toList.takeWhile (onB wordZ)).length) := by show _ = _; rfl
  have HN : Hid (nameR s.data.toList = if nameB ⟨(s.data.toList.takeWhile (onB wordZ)).toArray⟩ = true then some ⟨1, s.data.toList.takeWhile (onB wordZ), 0, spanL wordZ s.data.toList⟩ else none) := by show _ = _; rfl
  go_enter Tryd.func77, Tryd.ntmps77
  go_wp2_with fail
  have x1 := boxed5_new w (.int .i64 0) (.string ⟨#[]⟩) (.int .i64 0) (.int .i64 0) (.int .i64 0)
  have b1 := stands_alloc w (.cells #[.int .i64 0, .string ⟨#[]⟩, .int .i64 0, .int .i64 0, .int .i64 0] 71)
  generalize w.alloc (.cells #[.int .i64 0, .string ⟨#[]⟩, .int .i64 0, .int .i64 0, .int .i64 0] 71) = w1 at *
  refine (span_any set_word s _ HSZ.out).mono ?_
  rintro e w2 ⟨rfl, b2⟩
  have X2 := Lib.hid (x1.on b2); have B2 := Lib.hid (Below.step b1 b2)
  clear x1 b1 b2
  go_wp2_with fail
  rw [HST.out]
  generalize s.data.toList.takeWhile (onB wordZ) = l at *
  rw [HSL.out] at hsp HN
  rw [HSL.out]
  have hl : (⟨l.toArray⟩ : ByteArray).size = l.length := size_mk l
  refine (name_any _ _ (by rw [hl]; unfold maxLen; omega)).mono ?_
  rintro e w3 ⟨rfl, b3⟩
  have X3 := X2.out.on b3; have B3 := Lib.hid (Below.step B2.out b3)
  obtain ⟨r0, r1, r2, r3, r4⟩ := X3.cells
  have z0 := frozen_of_row w3 _ 0 _ _ X3
  have z1 := frozen_of_row w3 _ 1 _ _ X3
  have z2 := frozen_of_row w3 _ 2 _ _ X3
  have z3 := frozen_of_row w3 _ 3 _ _ X3
  have z4 := frozen_of_row w3 _ 4 _ _ X3
  clear X2 X3 B2 b3
  cases hn : nameB ⟨l.toArray⟩ with
  | false =>
    have HE : Hid (nameR s.data.toList = none) := by show _ = _; rw [HN.out, hn]; rfl
    clear hn
    go_wp2_with fail
    refine bodyPost_ret (v := .tuple #[.agg #[.int .i64 0, .string ⟨#[]⟩, .int .i64 0, .int .i64 0, .int .i64 0], .int .i64 0]) (by simp [results, Tryd.results77, go_sem, r0, r1, r2, r3, r4]) rfl ?_
    rw [HE.out]
    exact ⟨rfl, stored5 B3.out _ (Nat.le_refl _) _ _ _ _ _⟩
  | true =>
    have HE : Hid (nameR s.data.toList = some ⟨1, l, 0, l.length⟩) := by show _ = _; rw [HN.out, hn]; rfl
    clear hn
    go_wp2_with fail
    refine bodyPost_ret (v := .tuple #[.agg #[.int .i64 1, .string ⟨l.toArray⟩, .int .i64 0, .int .i64 0, .int .i64 0], .int .i64 l.length]) (by simp [results, Tryd.results77, go_sem, r0, r1, r2, r3, r4]) rfl ?_
    rw [HE.out]
    exact ⟨rfl, stored5 B3.out _ (Nat.le_refl _) _ _ _ _ _⟩

set_option maxRecDepth 100000 in
set_option maxHeartbeats 2000000 in
theorem lvar_any (s : ByteArray) (w : World) (hs : s.size ≤ maxLen) :
    Calls Tryd.prog 79 #[.string s] w (ReadPost (varR s.data.toList) w) := by
  have HSZ := Lib.hid hs
  unfold maxLen at hs
  have hsp := span_size wordZ s
  have HST := Lib.hid (span_take wordZ s)
  have HSL : Hid (spanL wordZ s.data.toList = (s.data.toList.takeWhile (onB wordZ)).length) := by show _ = _; rfl
  have HN : Hid (varR s.data.toList = if 16 < spanL wordZ s.data.toList then none else some ⟨2, s.data.toList.takeWhile (onB wordZ), 0, spanL wordZ s.data.toList⟩) := by show _ = _; rfl
  go_enter Tryd.func79, Tryd.ntmps79
  go_wp2_with fail
  have x1 := boxed5_new w (.int .i64 0) (.string ⟨#[]⟩) (.int .i64 0) (.int .i64 0) (.int .i64 0)
  have b1 := stands_alloc w (.cells #[.int .i64 0, .string ⟨#[]⟩, .int .i64 0, .int .i64 0, .int .i64 0] 71)
  generalize w.alloc (.cells #[.int .i64 0, .string ⟨#[]⟩, .int .i64 0, .int .i64 0, .int .i64 0] 71) = w1 at *
  refine (span_any set_word s _ HSZ.out).mono ?_
  rintro e w2 ⟨rfl, b2⟩
  have X2 := x1.on b2; have B2 := Lib.hid (Below.step b1 b2)
  obtain ⟨r0, r1, r2, r3, r4⟩ := X2.cells
  have z0 := frozen_of_row w2 _ 0 _ _ X2
  have z1 := frozen_of_row w2 _ 1 _ _ X2
  have z2 := frozen_of_row w2 _ 2 _ _ X2
  have z3 := frozen_of_row w2 _ 3 _ _ X2
  have z4 := frozen_of_row w2 _ 4 _ _ X2
  clear x1 b1 b2 X2
  have hl : (⟨(s.data.toList.takeWhile (onB wordZ)).toArray⟩ : ByteArray).size = (s.data.toList.takeWhile (onB wordZ)).length := size_mk _
  have hst := HST.out
  generalize s.data.toList.takeWhile (onB wordZ) = l at *
  rw [HSL.out] at hsp HN hst
  rw [HSL.out]
  by_cases hn : 16 < l.length
  · have HE : Hid (varR s.data.toList = none) := by show _ = _; rw [HN.out, if_pos hn]
    go_wp2_with fail
    refine bodyPost_ret (v := .tuple #[.agg #[.int .i64 0, .string ⟨#[]⟩, .int .i64 0, .int .i64 0, .int .i64 0], .int .i64 0]) (by simp [results, Tryd.results79, go_sem, r0, r1, r2, r3, r4]) rfl ?_
    rw [HE.out]
    exact ⟨rfl, stored5 B2.out _ (Nat.le_refl _) _ _ _ _ _⟩
  · have HE : Hid (varR s.data.toList = some ⟨2, l, 0, l.length⟩) := by show _ = _; rw [HN.out, if_neg hn]
    have hn' : l.length ≤ 16 := by omega
    clear hn
    go_wp2_with fail
    refine bodyPost_ret (v := .tuple #[.agg #[.int .i64 2, .string ⟨l.toArray⟩, .int .i64 0, .int .i64 0, .int .i64 0], .int .i64 l.length]) (by simp [results, Tryd.results79, go_sem, r0, r1, r2, r3, r4]) rfl ?_
    rw [HE.out]
    exact ⟨rfl, stored5 B2.out _ (Nat.le_refl _) _ _ _ _ _⟩

end Go.Proofs.YtgpgjaenbhbbgaaDoor
