/-
  WList, TermBox
-/
import Derived.Test.YtgjemmdhamkngaaGreatDoorK10
import Derived.Test.YtgjemmdhamkngaaGreatDoorK05
import Derived.Test.YtgjemmdhamkngaaGreatDoorK02
import Derived.Test.YtgjemmdhamkngaaGreatDoorK04
namespace Go.Proofs.YtgjemmdhamkngaaGreatDoor
open Go.RowKit
def TellsAt (F : Nat) (q1 q2 : Value) (B b : Nat) (w0 : World) (L : List (List UInt8)) : Prop :=
 ∀ (i : Nat) (hi : i < L.length) (acc : List UInt8) (w : World), pw.Wrote B b acc w0 w → acc.length + L[i].length ≤ 140737488355328 →
  Calls Tryz.prog F #[.int .i64 i, q1, q2] w fun e w' => e = .returned (.tuple #[]) ∧ pw.Wrote B b (acc ++ L[i]) w w'
theorem size_list (s : ByteArray) : s.data.toList.length = s.size := by simp
set_option maxRecDepth 100000 in
set_option maxHeartbeats 2000000 in
theorem wlist_any (F : Nat) (q1 q2 : Value) (B b : Nat) (acc : List UInt8) (w : World) (sep : ByteArray) (L : List (List UInt8)) (hen : ∀ args w, Sem.run Tryz.prog (callFunc F args) w = .ok (.enter F args) w) (hB : B ≤ w.heap.size)
  (hbu : Lib.IsBuilderF 108 5 B b (Lib.byteCells acc) w) (hlen : acc.length + (sepL sep.data.toList L).length ≤ 140737488355328) (hn : L.length ≤ 140737488355328) (tells : TellsAt F q1 q2 B b w L) :
  Calls Tryz.prog 88 #[.pointer (some ⟨b, 0, none⟩), .int .i64 L.length, .string sep, .func (.func F) #[] #[q1, q2]] w fun e w' => e = .returned (.tuple #[]) ∧ pw.Wrote B b (acc ++ sepL sep.data.toList L) w w' := by
 have W0 := Lib.hid (pw.Wrote.start hbu hB (Below.refl _ w))
 have HT := Lib.hid tells; have HE := Lib.hid hen; have HLEN := Lib.hid hlen
 clear hbu tells hen hlen
 go_enter Tryz.func88, Tryz.ntmps88
 go_wp2_with fail
 go_loopw [10, 8] (fun i _ wx => ∃ k : Nat, k ≤ L.length ∧ i = .int .i64 k ∧ Hid (pw.Wrote B b (acc ++ sepL sep.data.toList (L.take k)) w wx)) (fun i _ _ => L.length - (intOf i).toNat)
 case atStart => exact ⟨0, Nat.zero_le _, rfl, by show pw.Wrote _ _ _ _ _; simpa [sepL] using W0.out⟩
 case round =>
  obtain ⟨k, hk, rfl, HW⟩ := hrel
  by_cases hl : k < L.length
  ·have hts : L.take (k + 1) = L.take k ++ [L[k]] := List.take_succ_eq_append_getElem hl
   have hsn := sepL_snoc sep.data.toList (L.take k) L[k]
   have hle := sepL_take_le sep.data.toList L (k + 1)
   rw [hts, hsn] at hle
   have hw := HW.out
   have HX : Hid (sepL sep.data.toList (L.take (k + 1)) = sepL sep.data.toList (L.take k) ++ ((if L.take k = [] then [] else sep.data.toList) ++ L[k])) := by show _ = _; rw [hts, hsn]
   have HLE := Lib.hid hle
   have hne : ∀ args w, Sem.run Tryz.prog (callFunc F args) w = .ok (.enter F args) w := HE.out
   have hBx : B ≤ wr.heap.size := Nat.le_trans hB hw.2.1.size
   clear hts hsn hle hw
   by_cases h0 : k = 0
   ·have HI : Hid ((if L.take k = [] then ([] : List UInt8) else sep.data.toList) = []) := by show _ = _; rw [if_pos (by simp [h0])]
    have h0' : decide (0 < (k : Int)) = false := by simp [h0]
    have h0n : decide (0 < k) = false := by simp [h0]
    clear h0
    go_wp2_with fail
    refine (HT.out k hl _ _ HW.out (by have h1 := HLE.out; have h2 := HLEN.out; simp only [List.length_append] at h1 ⊢; omega)).mono ?_
    rintro e w3 ⟨rfl, W3⟩
    have W4 := Lib.hid (HW.out.trans W3)
    clear W3
    go_wp2_with fail
    go_roundw
    case rel => exact ⟨k + 1, by omega, by go_num, by show pw.Wrote _ _ _ _ _; rw [HX.out, HI.out]; simpa [List.append_assoc] using W4.out⟩
    case measure => simp [intOf]; omega
   ·have HI : Hid ((if L.take k = [] then ([] : List UInt8) else sep.data.toList) = sep.data.toList) := by show _ = _; rw [if_neg (by intro h; have := congrArg List.length h; rw [List.length_take, List.length_nil] at this; omega)]
    have h0' : decide (0 < (k : Int)) = true := by simp; omega
    have h0n : decide (0 < k) = true := by simp; omega
    clear h0
    go_wp2_with fail
    refine (pw.wstr B b _ sep _ HW.out.1 (by have h1 := HLE.out; have h2 := HLEN.out; rw [HI.out] at h1; rw [← size_list]; simp only [List.length_append] at h1 ⊢; omega) hBx).mono ?_
    rintro e w2 ⟨rfl, W2⟩
    have W2' := Lib.hid (HW.out.trans W2)
    clear W2
    go_wp2_with fail
    refine (HT.out k hl _ _ W2'.out (by have h1 := HLE.out; have h2 := HLEN.out; rw [HI.out] at h1; simp only [List.length_append] at h1 ⊢; omega)).mono ?_
    rintro e w3 ⟨rfl, W3⟩
    have W4 := Lib.hid (W2'.out.trans W3)
    clear W3
    go_wp2_with fail
    go_roundw
    case rel => exact ⟨k + 1, by omega, by go_num, by show pw.Wrote _ _ _ _ _; rw [HX.out, HI.out]; simpa [List.append_assoc] using W4.out⟩
    case measure => simp [intOf]; omega
  ·have HF : Hid (L.take k = L) := List.take_of_length_le (by omega)
   rw [HF.out] at HW
   go_wp2_with fail
   go_end0
   exact ⟨rfl, HW.out⟩
set_option maxRecDepth 100000 in
set_option maxHeartbeats 2000000 in
theorem watom_any (F : Nat) (q1 q2 : Value) (B b : Nat) (acc : List UInt8) (w : World) (s : ByteArray) (L : List (List UInt8)) (hen : ∀ args w, Sem.run Tryz.prog (callFunc F args) w = .ok (.enter F args) w) (hB : B ≤ w.heap.size)
  (hbu : Lib.IsBuilderF 108 5 B b (Lib.byteCells acc) w) (hlen : acc.length + (showAtom s L).length ≤ 140737488355328) (hn : L.length ≤ 140737488355328) (tells : TellsAt F q1 q2 B b w L) :
  Calls Tryz.prog 82 #[.pointer (some ⟨b, 0, none⟩), .string s, .int .i64 L.length, .func (.func F) #[] #[q1, q2]] w fun e w' => e = .returned (.tuple #[]) ∧ pw.Wrote B b (acc ++ showAtom s L) w w' := by
 have HL : Hid (acc.length + s.size + 3 + (sepL [44] L).length ≤ 140737488355328) := by
  show _ ≤ _
  simp only [showAtom, List.length_append, List.length_cons, List.length_nil, size_list] at hlen
  omega
 have HBU := Lib.hid hbu; have HT := Lib.hid tells; have HE := Lib.hid hen
 clear hbu tells hen hlen
 go_enter Tryz.func82, Tryz.ntmps82
 go_wp2_with fail
 refine (pw.wstr B b acc s _ HBU.out (by have := HL.out; omega) hB).mono ?_
 rintro e w1 ⟨rfl, W1⟩
 have HW1 := Lib.hid W1; clear W1
 go_wp2_with fail
 refine (pw.wstr B b _ ⟨#[40, 64]⟩ _ HW1.out.1 (by have := HL.out; simp only [List.length_append, size_list]; show _ + 2 ≤ _; omega) (Nat.le_trans hB HW1.out.2.1.size)).mono ?_
 rintro e w2 ⟨rfl, W2⟩
 have HW2 := Lib.hid (HW1.out.trans W2); clear W2 HW1
 go_wp2_with fail
 refine (wlist_any F q1 q2 B b _ _ ⟨#[44]⟩ L HE.out (Nat.le_trans hB HW2.out.2.1.size) HW2.out.1 (by have := HL.out; simp only [List.length_append, size_list]; show _ + 2 + (sepL [44] L).length ≤ _; omega) hn (fun i hi a' w' hw hl => HT.out i hi a' w' (HW2.out.trans hw) hl)).mono ?_
 rintro e w3 ⟨rfl, W3⟩
 have HW3 := Lib.hid (HW2.out.trans W3); clear W3 HW2
 go_wp2_with fail
 refine (pw.wbyte B b _ 41 _ HW3.out.1 (by have := HL.out; simp only [List.length_append, size_list]; show _ + 2 + (sepL [44] L).length + 1 ≤ _; omega) (Nat.le_trans hB HW3.out.2.1.size)).mono ?_
 rintro e w4 ⟨rfl, W4⟩
 have HW4 := Lib.hid (HW3.out.trans W4); clear W4 HW3
 go_wp2_with fail
 go_end0
 refine ⟨rfl, ?_⟩
 have h := HW4.out
 simpa [showAtom, List.append_assoc] using h
end Go.Proofs.YtgjemmdhamkngaaGreatDoor
namespace Go.Proofs.YtgjemmdhamkngaaGreatDoor
open Go.RowKit
def BoxM (w : World) (k : Nat) (c0 c1 c2 c3 c4 c5 c6 : Value) : Prop := w.heap[k]? = some (.cells #[c0, c1, c2, c3, c4, c5, c6] 46 (0, 0))
theorem BoxM.cells {w : World} {k : Nat} {c0 c1 c2 c3 c4 c5 c6 : Value} (h : BoxM w k c0 c1 c2 c3 c4 c5 c6) : w.cell? ⟨k, 0, none⟩ = some c0 ∧ w.cell? ⟨k, 1, none⟩ = some c1 ∧ w.cell? ⟨k, 2, none⟩ = some c2 ∧ w.cell? ⟨k, 3, none⟩ = some c3 ∧ w.cell? ⟨k, 4, none⟩ = some c4 ∧ w.cell? ⟨k, 5, none⟩ = some c5 ∧ w.cell? ⟨k, 6, none⟩ = some c6 :=
 ⟨cell_of_block' h _ rfl, cell_of_block' h _ rfl, cell_of_block' h _ rfl, cell_of_block' h _ rfl, cell_of_block' h _ rfl, cell_of_block' h _ rfl, cell_of_block' h _ rfl⟩
theorem BoxM.lt {w : World} {k : Nat} {c0 c1 c2 c3 c4 c5 c6 : Value} (h : BoxM w k c0 c1 c2 c3 c4 c5 c6) : k < w.heap.size := (Array.getElem?_eq_some_iff.1 h).1
theorem BoxM.on {w w' : World} {k : Nat} {c0 c1 c2 c3 c4 c5 c6 : Value} (h : BoxM w k c0 c1 c2 c3 c4 c5 c6) (hb : Below w.heap.size w w') : BoxM w' k c0 c1 c2 c3 c4 c5 c6 := (hb.block k h.lt).trans h
theorem boxM_new (w : World) (c0 c1 c2 c3 c4 c5 c6 : Value) : BoxM (w.alloc (.cells #[c0, c1, c2, c3, c4, c5, c6] 46)) w.heap.size c0 c1 c2 c3 c4 c5 c6 := alloc_new' _ _
def BoxLi (w : World) (k : Nat) (c0 c1 c2 : Value) : Prop := w.heap[k]? = some (.cells #[c0, c1, c2] 41 (0, 0))
theorem BoxLi.cells {w : World} {k : Nat} {c0 c1 c2 : Value} (h : BoxLi w k c0 c1 c2) : w.cell? ⟨k, 0, none⟩ = some c0 ∧ w.cell? ⟨k, 1, none⟩ = some c1 ∧ w.cell? ⟨k, 2, none⟩ = some c2 :=
 ⟨cell_of_block' h _ rfl, cell_of_block' h _ rfl, cell_of_block' h _ rfl⟩
theorem BoxLi.lt {w : World} {k : Nat} {c0 c1 c2 : Value} (h : BoxLi w k c0 c1 c2) : k < w.heap.size := (Array.getElem?_eq_some_iff.1 h).1
theorem BoxLi.on {w w' : World} {k : Nat} {c0 c1 c2 : Value} (h : BoxLi w k c0 c1 c2) (hb : Below w.heap.size w w') : BoxLi w' k c0 c1 c2 := (hb.block k h.lt).trans h
theorem boxLi_new (w : World) (c0 c1 c2 : Value) : BoxLi (w.alloc (.cells #[c0, c1, c2] 41)) w.heap.size c0 c1 c2 := alloc_new' _ _
def BoxRu (w : World) (k : Nat) (c0 c1 c2 c3 c4 c5 : Value) : Prop := w.heap[k]? = some (.cells #[c0, c1, c2, c3, c4, c5] 37 (0, 0))
theorem BoxRu.cells {w : World} {k : Nat} {c0 c1 c2 c3 c4 c5 : Value} (h : BoxRu w k c0 c1 c2 c3 c4 c5) : w.cell? ⟨k, 0, none⟩ = some c0 ∧ w.cell? ⟨k, 1, none⟩ = some c1 ∧ w.cell? ⟨k, 2, none⟩ = some c2 ∧ w.cell? ⟨k, 3, none⟩ = some c3 ∧ w.cell? ⟨k, 4, none⟩ = some c4 ∧ w.cell? ⟨k, 5, none⟩ = some c5 :=
 ⟨cell_of_block' h _ rfl, cell_of_block' h _ rfl, cell_of_block' h _ rfl, cell_of_block' h _ rfl, cell_of_block' h _ rfl, cell_of_block' h _ rfl⟩
theorem BoxRu.lt {w : World} {k : Nat} {c0 c1 c2 c3 c4 c5 : Value} (h : BoxRu w k c0 c1 c2 c3 c4 c5) : k < w.heap.size := (Array.getElem?_eq_some_iff.1 h).1
theorem BoxRu.on {w w' : World} {k : Nat} {c0 c1 c2 c3 c4 c5 : Value} (h : BoxRu w k c0 c1 c2 c3 c4 c5) (hb : Below w.heap.size w w') : BoxRu w' k c0 c1 c2 c3 c4 c5 := (hb.block k h.lt).trans h
theorem boxRu_new (w : World) (c0 c1 c2 c3 c4 c5 : Value) : BoxRu (w.alloc (.cells #[c0, c1, c2, c3, c4, c5] 37)) w.heap.size c0 c1 c2 c3 c4 c5 := alloc_new' _ _
def BoxDe (w : World) (k : Nat) (c0 c1 : Value) : Prop := w.heap[k]? = some (.cells #[c0, c1] 57 (0, 0))
theorem BoxDe.cells {w : World} {k : Nat} {c0 c1 : Value} (h : BoxDe w k c0 c1) : w.cell? ⟨k, 0, none⟩ = some c0 ∧ w.cell? ⟨k, 1, none⟩ = some c1 :=
 ⟨cell_of_block' h _ rfl, cell_of_block' h _ rfl⟩
theorem BoxDe.lt {w : World} {k : Nat} {c0 c1 : Value} (h : BoxDe w k c0 c1) : k < w.heap.size := (Array.getElem?_eq_some_iff.1 h).1
theorem BoxDe.on {w w' : World} {k : Nat} {c0 c1 : Value} (h : BoxDe w k c0 c1) (hb : Below w.heap.size w w') : BoxDe w' k c0 c1 := (hb.block k h.lt).trans h
theorem boxDe_new (w : World) (c0 c1 : Value) : BoxDe (w.alloc (.cells #[c0, c1] 57)) w.heap.size c0 c1 := alloc_new' _ _
def BoxFa (w : World) (k : Nat) (c0 c1 : Value) : Prop := w.heap[k]? = some (.cells #[c0, c1] 33 (0, 0))
theorem BoxFa.cells {w : World} {k : Nat} {c0 c1 : Value} (h : BoxFa w k c0 c1) : w.cell? ⟨k, 0, none⟩ = some c0 ∧ w.cell? ⟨k, 1, none⟩ = some c1 :=
 ⟨cell_of_block' h _ rfl, cell_of_block' h _ rfl⟩
theorem BoxFa.lt {w : World} {k : Nat} {c0 c1 : Value} (h : BoxFa w k c0 c1) : k < w.heap.size := (Array.getElem?_eq_some_iff.1 h).1
theorem BoxFa.on {w w' : World} {k : Nat} {c0 c1 : Value} (h : BoxFa w k c0 c1) (hb : Below w.heap.size w w') : BoxFa w' k c0 c1 := (hb.block k h.lt).trans h
theorem boxFa_new (w : World) (c0 c1 : Value) : BoxFa (w.alloc (.cells #[c0, c1] 33)) w.heap.size c0 c1 := alloc_new' _ _
def BoxPr (w : World) (k : Nat) (c0 c1 c2 : Value) : Prop := w.heap[k]? = some (.cells #[c0, c1, c2] 26 (0, 0))
theorem BoxPr.cells {w : World} {k : Nat} {c0 c1 c2 : Value} (h : BoxPr w k c0 c1 c2) : w.cell? ⟨k, 0, none⟩ = some c0 ∧ w.cell? ⟨k, 1, none⟩ = some c1 ∧ w.cell? ⟨k, 2, none⟩ = some c2 :=
 ⟨cell_of_block' h _ rfl, cell_of_block' h _ rfl, cell_of_block' h _ rfl⟩
theorem BoxPr.lt {w : World} {k : Nat} {c0 c1 c2 : Value} (h : BoxPr w k c0 c1 c2) : k < w.heap.size := (Array.getElem?_eq_some_iff.1 h).1
theorem BoxPr.on {w w' : World} {k : Nat} {c0 c1 c2 : Value} (h : BoxPr w k c0 c1 c2) (hb : Below w.heap.size w w') : BoxPr w' k c0 c1 c2 := (hb.block k h.lt).trans h
theorem boxPr_new (w : World) (c0 c1 c2 : Value) : BoxPr (w.alloc (.cells #[c0, c1, c2] 26)) w.heap.size c0 c1 c2 := alloc_new' _ _
end Go.Proofs.YtgjemmdhamkngaaGreatDoor
