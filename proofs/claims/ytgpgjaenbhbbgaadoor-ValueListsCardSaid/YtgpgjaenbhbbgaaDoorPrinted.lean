/-
  value.Print: a right value's text, and empty of all else.
-/
import Derived.Test.YtgpgjaenbhbbgaaDoorPrint
namespace Go.Proofs.YtgpgjaenbhbbgaaDoor
open Go.RowKit

mutual
theorem write_any (x : V) : WriteAt x := by
  cases x with
  | mk k n s l => exact write_of _ (fun l' e => by have e' : l = l' := e; rw [← e']; exact writeList_any l)
  termination_by SizeOf.sizeOf x
  decreasing_by simp only [V.mk.sizeOf_spec]; omega
theorem writeList_any (l : List V) : WriteListAt l := writeList_of l (fun x _hx => write_any x)
  termination_by SizeOf.sizeOf l
  decreasing_by exact List.sizeOf_lt_of_mem _hx
end

theorem decDigits_le : ∀ (k u : Nat), u < 10 ^ (k + 1) → (Lib.decDigits u).length ≤ k + 1
  | k, u, h => by
    rw [Lib.decDigits]
    split
    · simp
    · match k with
      | 0 => simp at h; omega
      | k + 1 =>
        have := decDigits_le k (u / 10) (by rw [Nat.pow_succ] at h; omega)
        simp only [List.length_append, List.length_cons, List.length_nil]
        omega
theorem decDigits_ne (u : Nat) : Lib.decDigits u ≠ [] := by
  rw [Lib.decDigits]; split <;> simp
theorem itoa_le (n : Int) (h : -2147483647 ≤ n ∧ n ≤ 2147483647) : (Lib.itoa n).length ≤ 11 := by
  unfold Lib.itoa
  split
  · have := decDigits_le 9 n.natAbs (by omega)
    simp only [List.length_cons]; omega
  · have := decDigits_le 9 n.toNat (by omega)
    omega
theorem itoa_ne (n : Int) : Lib.itoa n ≠ [] := by
  unfold Lib.itoa
  split
  · simp
  · exact decDigits_ne _

theorem textB_le {s : ByteArray} (h : textB s = true) : s.size ≤ 32 := (of_decide_eq_true h).1
theorem nameB_le {s : ByteArray} (h : nameB s = true) : 1 ≤ s.size ∧ s.size ≤ 16 := ⟨(of_decide_eq_true h).1, (of_decide_eq_true h).2.1⟩
theorem data_length (s : ByteArray) : s.data.toList.length = s.size := by simp

theorem prL_le {b : Nat} : ∀ (l : List V) (first : Bool), (∀ x, x ∈ l → (prV x).length ≤ b) → (prL first l).length ≤ l.length * (b + 1)
  | [], _, _ => by simp [prL]
  | x :: l, first, h => by
    have h1 := h x (by simp)
    have h2 := prL_le l false (fun y hy => h y (by simp [hy]))
    simp only [prL, List.length_append, List.length_cons]
    have h3 : (if first = true then [] else [44] : List UInt8).length ≤ 1 := by split <;> simp
    rw [Nat.succ_mul]
    omega

theorem baseB_cases {k n : Int} {s : ByteArray} {l : List V} {b : Bool} (h : baseB k n s l b = true) :
    (k = 1 ∧ s.toList.isEmpty = true ∧ l = [] ∧ -2147483647 ≤ n ∧ n ≤ 2147483647) ∨ (k = 2 ∧ n = 0 ∧ l = [] ∧ textB s = true) ∨ (k = 3 ∧ n = 0 ∧ l = [] ∧ nameB s = true) ∨ (k = 4 ∧ n = 0 ∧ s.toList.isEmpty = true ∧ b = true) := by
  unfold baseB at h
  split at h
  · simp at h; simp_all
  · split at h
    · simp at h; simp_all
    · split at h
      · simp at h; simp_all
      · split at h
        · simp at h; simp_all
        · cases h

theorem prV_le : ∀ (d : Nat) (x : V), rightV d x = true → (prV x).length ≤ 64 * 20 ^ d ∧ prV x ≠ []
  | d, .mk k n s l, h => by
    have hp : 1 ≤ 20 ^ d := Nat.one_le_pow _ _ (by omega)
    rw [rightV_mk] at h
    rcases baseB_cases h with ⟨rfl, _, _, h1, h2⟩ | ⟨rfl, _, _, h1⟩ | ⟨rfl, _, _, h1⟩ | ⟨rfl, _, _, h1⟩
    · have := itoa_le n ⟨h1, h2⟩
      exact ⟨by simp only [prV, if_true]; omega, by simp only [prV, if_true]; exact itoa_ne n⟩
    · have := textB_le h1
      refine ⟨?_, by simp [prV]⟩
      simp only [prV, if_true]
      rw [if_neg (by decide)]
      simp only [List.length_cons, List.length_append, List.length_nil, data_length]
      omega
    · have := nameB_le h1
      have e : prV (.mk 3 n s l) = s.data.toList := by simp [prV]
      rw [e]
      refine ⟨by rw [data_length]; omega, fun e0 => ?_⟩
      have := data_length s
      rw [e0] at this
      simp at this
      omega
    · have e : prV (.mk 4 n s l) = 91 :: (prL true l ++ [93]) := by simp [prV]
      rw [e]
      refine ⟨?_, by simp⟩
      match d, h1 with
      | d + 1, h1 =>
        simp only [rightL, Bool.and_eq_true, decide_eq_true_eq, List.all_eq_true] at h1
        have hq : 1 ≤ 20 ^ d := Nat.one_le_pow _ _ (by omega)
        have h2 := prL_le (b := 64 * 20 ^ d) l true (fun x hx => (prV_le d x (h1.2 x hx)).1)
        have h3 : l.length * (64 * 20 ^ d + 1) ≤ 16 * (64 * 20 ^ d + 1) := Nat.mul_le_mul_right _ h1.1
        simp only [List.length_cons, List.length_append, List.length_nil]
        rw [Nat.pow_succ]
        omega

theorem ret_str {a b : List UInt8} (h : a = b) : Ending.returned (.string ⟨a.toArray⟩) = .returned (.string ⟨b.toArray⟩) := by rw [h]

/-- What 'Print' tells. -/
def printB (x : V) : List UInt8 := if rightV 4 x = true then prV x else []

set_option maxRecDepth 100000 in
set_option maxHeartbeats 1000000 in
theorem print_any (x : V) (B : Nat) (w : World) (c0 c1 c2 c3 : Value) (hB : B ≤ w.heap.size) (hgB : 1 < w.heap.size) (htab : TabOk w) (hx : RepV B w x c0 c1 c2 c3) :
    Calls Tryd.prog 31 #[.agg #[c0, c1, c2, c3]] w fun e w' => e = .returned (.string ⟨(printB x).toArray⟩) ∧ Below w.heap.size w w' := by
  obtain ⟨fa, fc, rfl, rfl, rfl, rfl⟩ := hx.form
  have HX := Lib.hid hx; clear hx
  have HTAB := Lib.hid htab; clear htab
  have hbb : Below w.heap.size w (w.alloc (.cells #[.int .i64 x.kind, .int .i64 x.num, .string x.text, .slice fa x.list.length fc] 24)) := stands_alloc _ _
  have HBOX := Lib.hid (alloc_new w (.cells #[.int .i64 x.kind, .int .i64 x.num, .string x.text, .slice fa x.list.length fc] 24))
  go_enter Tryd.func31, Tryd.ntmps31
  go_wp2_with fail
  refine (right_any x B _ _ _ _ _ (by simp; omega) (RepV.below (fun j hj => hbb.block j (by omega)) _ HX.out)).mono ?_
  rintro e w1 ⟨rfl, hb1⟩
  have hb2 : Below w.heap.size w w1 := hbb.trans (hb1.mono (by simp))
  have b1 : w1.heap[w.heap.size]? = _ := (hb1.block w.heap.size (by simp)).trans HBOX.out
  have hsz := hb2.size
  have hsz1 : w.heap.size < w1.heap.size := (Array.getElem?_eq_some_iff.1 b1).1
  have d0 := cell_of_block (i := 0) b1 _ rfl
  have d1 := cell_of_block (i := 1) b1 _ rfl
  have d2 := cell_of_block (i := 2) b1 _ rfl
  have d3 := cell_of_block (i := 3) b1 _ rfl
  clear b1
  cases hr : rightV 4 x with
  | false =>
    have HR := Lib.hid hr; clear hr
    go_wp2_with fail
    go_ret
    exact ⟨ret_str (a := []) (by rw [printB, if_neg (by simp [HR.out])]), hb2⟩
  | true =>
    have HR := Lib.hid hr; clear hr
    have HPL := Lib.hid (prV_le 4 x HR.out)
    go_wp2_with fail
    have hfr := Lib.IsBuilderF.of (Lib.fresh_isBuilder 81 5 w1)
    have hs3 : Below w1.heap.size w1 (w1.alloc (.cells #[.pointer none, .slice none 0 0] 81)) := stands_alloc _ _
    have hb3 : Below w.heap.size w (w1.alloc (.cells #[.pointer none, .slice none 0 0] 81)) := hb2.trans (hs3.mono hsz)
    refine (write_any x B w1.heap.size w1.heap.size [] _ _ _ _ _ (by omega) (by simp) (by omega) (HTAB.out.below hgB hb3) (RepV.below (fun j hj => hb3.block j (by omega)) _ HX.out) hfr (by have := HPL.out.1; simp; omega)).mono ?_
    rintro e w2 ⟨rfl, W2⟩
    clear d0 d1 d2 d3
    have W2b : Lib.IsBuilderF 81 5 w1.heap.size w1.heap.size (Lib.byteCells (prV x)) w2 := by simpa using W2.1
    go_wp2_with fail
    refine (Tryd.Builder_String_k _ _ (prV x) _ W2b HPL.out.2).mono ?_
    rintro e w4 ⟨rfl, _, hb4, _⟩
    go_wp2_with fail
    go_ret
    exact ⟨ret_str (a := prV x) (by rw [printB, if_pos HR.out]), (hb3.trans (W2.2.1.mono hsz)).trans (hb4.mono hsz)⟩

end Go.Proofs.YtgpgjaenbhbbgaaDoor
