/-
  value.Print: a right value's text, and empty of all else.
-/
import Derived.Test.YtaomlkglodeaoaaDoorW07
import Derived.Test.YtaomlkglodeaoaaDoorW06
namespace Go.Proofs.YtaomlkglodeaoaaDoor
open Go.RowKit

mutual
theorem write_any (x : V) : WriteAt x := by
  cases x with
  | mk k n s l => exact write_of _ (fun l' e => by have e' : l = l' := e; rw [← e']; exact writeList_any l)
  termination_by SizeOf.sizeOf x
  decreasing_by simp only [V.mk.sizeOf_spec]; omega
theorem writeList_any (l : List V) : WriteListAt l := writeList_of l (fun x _hx => write_any x)
  termination_by SizeOf.sizeOf l
  decreasing_by exact List.sizeOf_lt_of_mem _hx
end

theorem decDigits_le : ∀ (k u : Nat), u < 10 ^ (k + 1) → (Lib.decDigits u).length ≤ k + 1
  | k, u, h => by
    rw [Lib.decDigits]
    split
    · simp
    · match k with
      | 0 => simp at h; omega
      | k + 1 =>
        have := decDigits_le k (u / 10) (by rw [Nat.pow_succ] at h; omega)
        simp only [List.length_append, List.length_cons, List.length_nil]
        omega
theorem decDigits_ne (u : Nat) : Lib.decDigits u ≠ [] := by
  rw [Lib.decDigits]; split <;> simp
theorem itoa_le (n : Int) (h : -2147483647 ≤ n ∧ n ≤ 2147483647) : (Lib.itoa n).length ≤ 11 := by
  unfold Lib.itoa
  split
  · have := decDigits_le 9 n.natAbs (by omega)
    simp only [List.length_cons]; omega
  · have := decDigits_le 9 n.toNat (by omega)
    omega
theorem itoa_ne (n : Int) : Lib.itoa n ≠ [] := by
  unfold Lib.itoa
  split
  · simp
  · exact decDigits_ne _

theorem textB_le {s : ByteArray} (h : textB s = true) : s.size ≤ 32 := (of_decide_eq_true h).1
theorem nameB_le {s : ByteArray} (h : nameB s = true) : 1 ≤ s.size ∧ s.size ≤ 16 := ⟨(of_decide_eq_true h).1, (of_decide_eq_true h).2.1⟩
theorem data_length (s : ByteArray) : s.data.toList.length = s.size := by simp

theorem prL_le {b : Nat} : ∀ (l : List V) (first : Bool), (∀ x, x ∈ l → (prV x).length ≤ b) → (prL first l).length ≤ l.length * (b + 1)
  | [], _, _ => by simp [prL]
  | x :: l, first, h => by
    have h1 := h x (by simp)
    have h2 := prL_le l false (fun y hy => h y (by simp [hy]))
    simp only [prL, List.length_append, List.length_cons]
    have h3 : (if first = true then [] else [44] : List UInt8).length ≤ 1 := by split <;> simp
    rw [Nat.succ_mul]
    omega

theorem baseB_cases {k n : Int} {s : ByteArray} {l : List V} {b : Bool} (h : baseB k n s l b = true) :
    (k = 1 ∧ s.toList.isEmpty = true ∧ l = [] ∧ -2147483647 ≤ n ∧ n ≤ 2147483647) ∨ (k = 2 ∧ n = 0 ∧ l = [] ∧ textB s = true) ∨ (k = 3 ∧ n = 0 ∧ l = [] ∧ nameB s = true) ∨ (k = 4 ∧ n = 0 ∧ s.toList.isEmpty = true ∧ b = true) := by
  unfold baseB at h
  split at h
  · simp at h; simp_all
  · split at h
    · simp at h; simp_all
    · split at h
      · simp at h; simp_all
      · split at h
        · simp at h; simp_all
        · cases h

theorem prV_le : ∀ (d : Nat) (x : V), rightV d x = true → (prV x).length ≤ 64 * 20 ^ d ∧ prV x ≠ []
  | d, .mk k n s l, h => by
    have hp : 1 ≤ 20 ^ d := Nat.one_le_pow _ _ (by omega)
    rw [rightV_mk] at h
    rcases baseB_cases h with ⟨rfl, _, _, h1, h2⟩ | ⟨rfl, _, _, h1⟩ | ⟨rfl, _, _, h1⟩ | ⟨rfl, _, _, h1⟩
    · have := itoa_le n ⟨h1, h2⟩
      exact ⟨by simp only [prV, if_true]; omega, by simp only [prV, if_true]; exact itoa_ne n⟩
    · have := textB_le h1
      refine ⟨?_, by simp [prV]⟩
      simp only [prV, if_true]
      rw [if_neg (by decide)]
      simp only [List.length_cons, List.length_append, List.length_nil, data_length]
      omega
    · have := nameB_le h1
      have e : prV (.mk 3 n s l) = s.data.toList := by simp [prV]
      rw [e]
      refine ⟨by rw [data_length]; omega, fun e0 => ?_⟩
      have := data_length s
      rw [e0] at this
      simp at this
      omega
    · have e : prV (.mk 4 n s l) = 91 :: (prL true l ++ [93]) := by simp [prV]
      rw [e]
      refine ⟨?_, by simp⟩
      match d, h1 with
      | d + 1, h1 =>
        simp only [rightL, Bool.and_eq_true, decide_eq_true_eq, List.all_eq_true] at h1
        have hq : 1 ≤ 20 ^ d := Nat.one_le_pow _ _ (by omega)
        have h2 := prL_le (b := 64 * 20 ^ d) l true (fun x hx => (prV_le d x (h1.2 x hx)).1)
        have h3 : l.length * (64 * 20 ^ d + 1) ≤ 16 * (64 * 20 ^ d + 1) := Nat.mul_le_mul_right _ h1.1
        simp only [List.length_cons, List.length_append, List.length_nil]
        rw [Nat.pow_succ]
        omega

theorem ret_str {a b : List UInt8} (h : a = b) : Ending.returned (.string ⟨a.toArray⟩) = .returned (.string ⟨b.toArray⟩) := by rw [h]

/-- What 'Print' tells. -/
def printB (x : V) : List UInt8 := if rightV 4 x = true then prV x else []

set_option maxRecDepth 100000 in
set_option maxHeartbeats 1000000 in
theorem print_any (x : V) (B : Nat) (w : World) (c0 c1 c2 c3 : Value) (hB : B ≤ w.heap.size) (hgB : 0 < w.heap.size) (htab : TabOk w) (hx : RepV B w x c0 c1 c2 c3) :
    Calls Tryd.prog 20 #[.agg #[c0, c1, c2, c3]] w fun e w' => e = .returned (.string ⟨(printB x).toArray⟩) ∧ Below w.heap.size w w' := by
  obtain ⟨fa, fc, rfl, rfl, rfl, rfl⟩ := hx.form
  have HX := Lib.hid hx; clear hx
  have HTAB := Lib.hid htab; clear htab
  have hbb : Below w.heap.size w (w.alloc (.cells #[.int .i64 x.kind, .int .i64 x.num, .string x.text, .slice fa x.list.length fc] 24)) := stands_alloc _ _
  have HBOX := Lib.hid (alloc_new w (.cells #[.int .i64 x.kind, .int .i64 x.num, .string x.text, .slice fa x.list.length fc] 24))
  go_enter Tryd.func20, Tryd.ntmps20
  go_wp2_with fail
  refine (right_any x B _ _ _ _ _ (by simp; omega) (RepV.below (fun j hj => hbb.block j (by omega)) _ HX.out)).mono ?_
  rintro e w1 ⟨rfl, hb1⟩
  have hb2 : Below w.heap.size w w1 := hbb.trans (hb1.mono (by simp))
  have b1 : w1.heap[w.heap.size]? = _ := (hb1.block w.heap.size (by simp)).trans HBOX.out
  have hsz := hb2.size
  have hsz1 : w.heap.size < w1.heap.size := (Array.getElem?_eq_some_iff.1 b1).1
  have d0 := cell_of_block (i := 0) b1 _ rfl
  have d1 := cell_of_block (i := 1) b1 _ rfl
  have d2 := cell_of_block (i := 2) b1 _ rfl
  have d3 := cell_of_block (i := 3) b1 _ rfl
  clear b1
  cases hr : rightV 4 x with
  | false =>
    have HR := Lib.hid hr; clear hr
    go_wp2_with fail
    go_ret
    exact ⟨ret_str (a := []) (by rw [printB, if_neg (by simp [HR.out])]), hb2⟩
  | true =>
    have HR := Lib.hid hr; clear hr
    have HPL := Lib.hid (prV_le 4 x HR.out)
    go_wp2_with fail
    have hfr := Lib.IsBuilderF.of (Lib.fresh_isBuilder 59 5 w1)
    have hs3 : Below w1.heap.size w1 (w1.alloc (.cells #[.pointer none, .slice none 0 0] 59)) := stands_alloc _ _
    have hb3 : Below w.heap.size w (w1.alloc (.cells #[.pointer none, .slice none 0 0] 59)) := hb2.trans (hs3.mono hsz)
    refine (write_any x B w1.heap.size w1.heap.size [] _ _ _ _ _ (by omega) (by simp) (by omega) (HTAB.out.below hgB hb3) (RepV.below (fun j hj => hb3.block j (by omega)) _ HX.out) hfr (by have := HPL.out.1; simp; omega)).mono ?_
    rintro e w2 ⟨rfl, W2⟩
    clear d0 d1 d2 d3
    have W2b : Lib.IsBuilderF 59 5 w1.heap.size w1.heap.size (Lib.byteCells (prV x)) w2 := by simpa using W2.1
    go_wp2_with fail
    refine (Tryd.Builder_String_k _ _ (prV x) _ W2b HPL.out.2).mono ?_
    rintro e w4 ⟨rfl, _, hb4, _⟩
    go_wp2_with fail
    go_ret
    exact ⟨ret_str (a := prV x) (by rw [printB, if_pos HR.out]), (hb3.trans (W2.2.1.mono hsz)).trans (hb4.mono hsz)⟩

end Go.Proofs.YtaomlkglodeaoaaDoor

/-
  builtin.Call of any name and any values.
-/
namespace Go.Proofs.YtaomlkglodeaoaaDoor
open Go.RowKit

def takesB (k : Nat) : List V → Bool
  | [x] => (fnArity k == 1) && argB (fnList k 0) x
  | [x, y] => (fnArity k == 2) && (argB (fnList k 0) x && argB (fnList k 1) y)
  | _ => false
theorem takes_any (k : Nat) (args : List V) (B : Nat) (w : World) (a : Value) (hB : B ≤ w.heap.size) (ha : RepL B w args a) :
    Calls Tryd.prog 22 #[.agg #[.int .i64 (fnArity k), .bool (fnList k 0), .bool (fnList k 1), fnDo k], a] w fun e w' => e = .returned (.bool (takesB k args)) ∧ Below w.heap.size w w' := by
  have har := fnArity_range k
  match args, ha with
  | [], ha =>
    obtain ⟨aa, ab, ao, ac, rfl, -⟩ := ha
    exact takes_not (fnArity k) _ _ k w aa _ ac (by simp; omega)
  | [x], ha =>
    by_cases h : fnArity k = 1
    · rw [h, takesB, h]
      exact (takes_one _ _ k x B w a hB ha).mono fun e w' ⟨he, hb⟩ => ⟨by rw [he]; rfl, hb⟩
    · obtain ⟨aa, ab, ao, ac, rfl, -⟩ := ha
      have e : (fnArity k == 1) = false := beq_eq_false_iff_ne.2 h
      rw [takesB, e]
      exact takes_not (fnArity k) _ _ k w aa _ ac (by simp; omega)
  | [x, y], ha =>
    by_cases h : fnArity k = 2
    · rw [h, takesB, h]
      exact (takes_two _ _ k x y B w a hB ha).mono fun e w' ⟨he, hb⟩ => ⟨by rw [he]; rfl, hb⟩
    · obtain ⟨aa, ab, ao, ac, rfl, -⟩ := ha
      have e : (fnArity k == 2) = false := beq_eq_false_iff_ne.2 h
      rw [takesB, e]
      exact takes_not (fnArity k) _ _ k w aa _ ac (by simp; omega)
  | x :: y :: z :: t, ha =>
    obtain ⟨aa, ab, ao, ac, rfl, -⟩ := ha
    exact takes_not (fnArity k) _ _ k w aa _ ac (by simp; omega)

def doV : Nat → List V → V
  | 0, [x, y] => listV ([x] ++ y.list)
  | 1, [x, y] => listV (x.list ++ [y])
  | 2, [x, y] => listV (x.list ++ y.list)
  | 3, [x, y] => numV (memZ x.list y)
  | 4, [x] => numV x.list.length
  | 5, [x] => firstV x
  | 6, [x] => lastV x
  | 7, [x] => restV x
  | 8, [x] => listV x.list.reverse
  | _, _ => zeroV
def callV (k : Nat) (args : List V) : Option V := if takesB k args = true ∧ rightV 4 (doV k args) = true then some (doV k args) else none

theorem right_short {d : Nat} {x : V} (h : rightV d x = true) : x.list.length ≤ 16 := by
  cases x with
  | mk k n s l =>
    rw [rightV_mk] at h
    rcases baseB_cases h with ⟨_, _, rfl, _⟩ | ⟨_, _, rfl, _⟩ | ⟨_, _, rfl, _⟩ | ⟨_, _, _, h2⟩
    · show ([] : List V).length ≤ 16; simp
    · show ([] : List V).length ≤ 16; simp
    · show ([] : List V).length ≤ 16; simp
    · show l.length ≤ 16
      cases d with
      | zero => cases h2
      | succ d => simp only [rightL, Bool.and_eq_true, decide_eq_true_eq] at h2; exact h2.1
theorem arg_right {l : Bool} {x : V} (h : argB l x = true) : rightV 4 x = true := by
  rw [argB, Bool.and_eq_true] at h; exact h.1

/-- The function's number in the program. -/
def fnId : Nat → Nat
  | 0 => 38
  | 1 => 39
  | 2 => 40
  | 3 => 41
  | 4 => 42
  | 5 => 43
  | 6 => 44
  | 7 => 45
  | _ => 46
theorem fnDo_id {k : Nat} (h : k < 9) : fnDo k = .func (.func (fnId k)) #[] #[] := by
  match k, h with
  | 0, _ => rfl | 1, _ => rfl | 2, _ => rfl | 3, _ => rfl | 4, _ => rfl | 5, _ => rfl | 6, _ => rfl | 7, _ => rfl | 8, _ => rfl
theorem enters_0 (args : Array Value) (w : World) : Sem.run Tryd.prog (callFunc 38 args) w = .ok (.enter 38 args) w := by
  kernel_rfl
theorem enters_1 (args : Array Value) (w : World) : Sem.run Tryd.prog (callFunc 39 args) w = .ok (.enter 39 args) w := by
  kernel_rfl
theorem enters_2 (args : Array Value) (w : World) : Sem.run Tryd.prog (callFunc 40 args) w = .ok (.enter 40 args) w := by
  kernel_rfl
theorem enters_3 (args : Array Value) (w : World) : Sem.run Tryd.prog (callFunc 41 args) w = .ok (.enter 41 args) w := by
  kernel_rfl
theorem enters_4 (args : Array Value) (w : World) : Sem.run Tryd.prog (callFunc 42 args) w = .ok (.enter 42 args) w := by
  kernel_rfl
theorem enters_5 (args : Array Value) (w : World) : Sem.run Tryd.prog (callFunc 43 args) w = .ok (.enter 43 args) w := by
  kernel_rfl
theorem enters_6 (args : Array Value) (w : World) : Sem.run Tryd.prog (callFunc 44 args) w = .ok (.enter 44 args) w := by
  kernel_rfl
theorem enters_7 (args : Array Value) (w : World) : Sem.run Tryd.prog (callFunc 45 args) w = .ok (.enter 45 args) w := by
  kernel_rfl
theorem enters_8 (args : Array Value) (w : World) : Sem.run Tryd.prog (callFunc 46 args) w = .ok (.enter 46 args) w := by
  kernel_rfl
theorem fn_enters {k : Nat} (h : k < 9) (args : Array Value) (w : World) : Sem.run Tryd.prog (callFunc (fnId k) args) w = .ok (.enter (fnId k) args) w := by
  match k, h with
  | 0, _ => exact enters_0 args w
  | 1, _ => exact enters_1 args w
  | 2, _ => exact enters_2 args w
  | 3, _ => exact enters_3 args w
  | 4, _ => exact enters_4 args w
  | 5, _ => exact enters_5 args w
  | 6, _ => exact enters_6 args w
  | 7, _ => exact enters_7 args w
  | 8, _ => exact enters_8 args w
theorem takes_lt {k : Nat} {args : List V} (h : takesB k args = true) : k < 9 := by
  by_cases hk : k < 9
  · exact hk
  · have e : fnArity k = -1 := by
      unfold fnArity
      split <;> first | omega | rfl
    match args, h with
    | [x], h => rw [takesB, e] at h; cases h
    | [x, y], h => rw [takesB, e] at h; cases h
theorem takes_args {k : Nat} {args : List V} (h : takesB k args = true) : (∃ x, args = [x] ∧ fnArity k = 1 ∧ rightV 4 x = true) ∨ (∃ x y, args = [x, y] ∧ fnArity k = 2 ∧ rightV 4 x = true ∧ rightV 4 y = true) := by
  match args, h with
  | [x], h =>
    rw [takesB, Bool.and_eq_true, beq_iff_eq] at h
    exact .inl ⟨x, rfl, h.1, arg_right h.2⟩
  | [x, y], h =>
    rw [takesB, Bool.and_eq_true, Bool.and_eq_true, beq_iff_eq] at h
    exact .inr ⟨x, y, rfl, h.1, arg_right h.2.1, arg_right h.2.2⟩
theorem do_any {k : Nat} {args : List V} (h : takesB k args = true) (B : Nat) (w : World) (a : Value) (hB : B ≤ w.heap.size) (ha : RepL B w args a) :
    Calls Tryd.prog (fnId k) #[a] w (DoPost (doV k args) w) := by
  have hk := takes_lt h
  rcases takes_args h with ⟨x, rfl, har, hx⟩ | ⟨x, y, rfl, har, hx, hy⟩
  · have hl := right_short hx
    match k, hk, har with
    | 0, _, har => exact absurd har (by decide)
    | 1, _, har => exact absurd har (by decide)
    | 2, _, har => exact absurd har (by decide)
    | 3, _, har => exact absurd har (by decide)
    | 4, _, _ => exact size_any x B w a hB ha
    | 5, _, _ => exact first_any x B w a hB ha
    | 6, _, _ => exact last_any x B w a hB ha
    | 7, _, _ => exact rest_any x B w a hB ha
    | 8, _, _ => exact turned_any x B w a hB ha (by omega)
  · have hl := right_short hx
    have hm := right_short hy
    match k, hk, har with
    | 0, _, _ => exact cons_any x y B w a hB ha (by omega) (by omega)
    | 1, _, _ => exact appended_any x y B w a hB ha (by omega) (by omega)
    | 2, _, _ => exact joined_any x y B w a hB ha (by omega) (by omega)
    | 3, _, _ => exact member_any x y B w a hB ha
    | 4, _, har => exact absurd har (by decide)
    | 5, _, har => exact absurd har (by decide)
    | 6, _, har => exact absurd har (by decide)
    | 7, _, har => exact absurd har (by decide)
    | 8, _, har => exact absurd har (by decide)

/-- A slice of one value that the call lays. -/
theorem one_slice {S : Nat → Prop} {w : World} {x : V} {c0 c1 c2 c3 : Value} (hx : RepG S w x c0 c1 c2 c3) (hS : ∀ k, S k → k < w.heap.size) :
    RepL (w.heap.size + 1) (w.alloc (.cells #[c0, c1, c2, c3] 24)) [x] (.slice (some ⟨w.heap.size, 0, none⟩) 1 1) := by
  have hr : RepRow (fun b => b < w.heap.size + 1) (w.alloc (.cells #[c0, c1, c2, c3] 24)) [x] #[c0, c1, c2, c3] := by
    intro i hi
    obtain rfl : i = 0 := by simpa using hi
    exact ⟨c0, c1, c2, c3, rfl, rfl, rfl, rfl, hx.on (fun b hb => by have := hS b hb; omega) (fun b hb => Below.heap_alloc _ _ _ (hS b hb))⟩
  exact hr.slice (alloc_new' _ _) (Nat.lt_succ_self _) (Nat.le_refl _) (by simp)

theorem field_list (a b c d : Value) (w : World) : Sem.run Tryd.prog (Instr.field 24 (.agg #[a, b, c, d]) 3) w = .ok d w := by
  kernel_rfl
/-- A value in new memory. -/
def NewPost (x : V) (w : World) (e : Ending) (w' : World) : Prop := ∃ c0 c1 c2 c3, e = .returned (.agg #[c0, c1, c2, c3]) ∧ RepG (fun b => w.heap.size < b ∧ b < w'.heap.size) w' x c0 c1 c2 c3 ∧ Below w.heap.size w w'

set_option maxRecDepth 100000 in
set_option maxHeartbeats 1000000 in
theorem fresh_any (x : V) (B : Nat) (w : World) (c0 c1 c2 c3 : Value) (hB : B ≤ w.heap.size) (hx : RepV B w x c0 c1 c2 c3) :
    Calls Tryd.prog 24 #[.agg #[c0, c1, c2, c3]] w (NewPost x w) := by
  have HX := Lib.hid hx
  obtain ⟨fa, fc, rfl, rfl, rfl, rfl⟩ := hx.form
  clear hx
  go_enter Tryd.func24, Tryd.ntmps24
  go_wp2_with fail
  have b1 := (Below.refl _ w).alloc (Nat.le_refl _) (.cells #[.int .i64 x.kind, .int .i64 x.num, .string x.text, .slice fa x.list.length fc] 24)
  have s1 := World.size_alloc w (.cells #[.int .i64 x.kind, .int .i64 x.num, .string x.text, .slice fa x.list.length fc] 24)
  generalize w.alloc (.cells #[.int .i64 x.kind, .int .i64 x.num, .string x.text, .slice fa x.list.length fc] 24) = w1 at *
  have b2 := (Below.refl _ w1).alloc (Nat.le_refl _) (.cells #[.int .i64 0, .int .i64 0, .string ⟨#[]⟩, .slice none 0 0] 24)
  have x2 := boxed_new w1 (.int .i64 0) (.int .i64 0) (.string ⟨#[]⟩) (.slice none 0 0)
  have s2 := World.size_alloc w1 (.cells #[.int .i64 0, .int .i64 0, .string ⟨#[]⟩, .slice none 0 0] 24)
  rw [s1] at x2 s2
  generalize w1.alloc (.cells #[.int .i64 0, .int .i64 0, .string ⟨#[]⟩, .slice none 0 0] 24) = w2 at *
  have B2 := Below.step b1 b2
  have b3 := (Below.refl _ w2).alloc (Nat.le_refl _) (.cells #[.int .i64 x.kind, .int .i64 x.num, .string x.text, .slice fa x.list.length fc] 24)
  have r3 := one_slice (S := fun b => b < B) (RepV.below (w' := w2) (fun j hj => B2.block j (by omega)) x HX.out) (fun k hk => by omega)
  rw [s2] at r3
  have s3 := World.size_alloc w2 (.cells #[.int .i64 x.kind, .int .i64 x.num, .string x.text, .slice fa x.list.length fc] 24)
  generalize w2.alloc (.cells #[.int .i64 x.kind, .int .i64 x.num, .string x.text, .slice fa x.list.length fc] 24) = w3 at *
  have X3 := Lib.hid (x2.on b3)
  have B3 := Lib.hid (Below.step B2 b3)
  have HS3 := Lib.hid (s3.trans (by rw [s2]))
  clear b1 b2 b3 x2 B2
  refine (list_any [x] (w.heap.size + 1 + 1 + 1) _ _ (by omega) r3).mono ?_
  rintro e w4 ⟨r, rfl, hr, hb4⟩
  obtain ⟨ra, rb, ro, rc, rfl, hrc, -⟩ := id hr
  obtain ⟨-, -, b, o, ga, gc, rfl, hSb, g0, g1, g2, g3, g⟩ := RepLG.at hr 0 (by simp)
  simp only [List.getElem_cons_zero, Nat.zero_mul, Nat.add_zero, List.length_cons, List.length_nil, Nat.zero_add] at g0 g1 g2 g3 g hrc
  have X4 := X3.out.on hb4
  have B4 := Lib.hid (Below.step B3.out hb4)
  have HG := Lib.hid g
  obtain ⟨r0, r1, r2, r3'⟩ := X4.cells
  have z0 := frozen_of_row w4 _ 0 _ _ X4
  have z1 := frozen_of_row w4 _ 1 _ _ X4
  have z2 := frozen_of_row w4 _ 2 _ _ X4
  have z3 := frozen_of_row w4 _ 3 _ _ X4
  have hs4 := hb4.size
  clear X4 hr g r3 s1 s2 s3 hb4 X3
  have hf := field_list
  go_wp2_with fail
  refine bodyPost_ret (v := .agg #[.int .i64 x.kind, .int .i64 x.num, .string x.text, .slice ga x.list.length gc]) (by simp [results, Tryd.results24, go_sem, r0, r1, r2, r3']) rfl ?_
  refine ⟨_, _, _, _, rfl, HG.out.on (fun b hb => ⟨by have := HS3.out; omega, by simp [World.setCell]; exact hb.2⟩) (fun b hb => ?_), stored4 B4.out (w.heap.size + 1) (by omega) _ _ _ _⟩
  have h1 : b ≠ w.heap.size + 1 := by have := HS3.out; omega
  rw [Below.heap_setCell _ _ _ _ (by simpa using h1), Below.heap_setCell _ _ _ _ (by simpa using h1), Below.heap_setCell _ _ _ _ (by simpa using h1), Below.heap_setCell _ _ _ _ (by simpa using h1)]

/-- What Call answers: a value in new memory, or nothing. -/
def CallPost (r : Option V) (w : World) (e : Ending) (w' : World) : Prop := ∃ c0 c1 c2 c3, e = .returned (.tuple #[.agg #[c0, c1, c2, c3], .bool r.isSome]) ∧ RepG (fun b => w.heap.size < b ∧ b < w'.heap.size) w' (r.getD zeroV) c0 c1 c2 c3 ∧ Below w.heap.size w w'

set_option maxRecDepth 100000 in
set_option maxHeartbeats 2000000 in
theorem call_not (s : ByteArray) (args : List V) (B : Nat) (w : World) (a : Value) (hB : B ≤ w.heap.size) (ha : RepL B w args a) (ht : takesB (fnOf s) args = false) :
    Calls Tryd.prog 5 #[.string s, a] w (CallPost none w) := by
  have HA := Lib.hid ha
  obtain ⟨aa, ab, ao, ac, rfl, -⟩ := ha
  have HT := Lib.hid ht
  clear ht
  go_enter Tryd.func5, Tryd.ntmps5
  go_wp2_with fail
  have b1 := (Below.refl _ w).alloc (Nat.le_refl _) (.cells #[.int .i64 0, .int .i64 0, .string ⟨#[]⟩, .slice none 0 0] 24)
  have x1 := boxed_new w (.int .i64 0) (.int .i64 0) (.string ⟨#[]⟩) (.slice none 0 0)
  have s1 := World.size_alloc w (.cells #[.int .i64 0, .int .i64 0, .string ⟨#[]⟩, .slice none 0 0] 24)
  generalize w.alloc (.cells #[.int .i64 0, .int .i64 0, .string ⟨#[]⟩, .slice none 0 0] 24) = w1 at *
  refine (find_any s _).mono ?_
  rintro e w2 ⟨rfl, b2⟩
  have HTK := Lib.hid (takes_any (fnOf s) args B)
  obtain ⟨d, hd⟩ : ∃ d, d = fnDo (fnOf s) := ⟨_, rfl⟩
  have hform : (∃ id, d = .func (.func id) #[] #[]) ∨ d = .nilFunc := by
    rw [hd]
    by_cases h : fnOf s < 9
    · exact .inl ⟨_, fnDo_id h⟩
    · refine .inr ?_
      unfold fnDo
      split <;> first | omega | rfl
  rw [← hd] at HTK ⊢
  have HS1 := Lib.hid s1
  have B2 := Below.step b1 b2
  have X2 := x1.on b2
  clear b1 b2 x1 hd
  rcases hform with ⟨id, rfl⟩ | rfl
  all_goals
    go_wp2_with fail
    have b3 : ∀ o, Below w2.heap.size w2 (w2.alloc o) := fun o => (Below.refl _ w2).alloc (Nat.le_refl _) o
    refine (HTK.out _ _ (by have := HS1.out; have := B2.size; simp; omega) (RepL.below (fun j hj => (Below.step B2 (b3 _)).block j (by omega)) HA.out)).mono ?_
    rintro e w4 ⟨rfl, hb4⟩
    rw [HT.out]
    have B4 := Lib.hid (Below.step (Below.step B2 (b3 _)) hb4)
    have X4 := (X2.on (b3 _)).on hb4
    obtain ⟨r0, r1, r2, r3⟩ := X4.cells
    have z0 := frozen_of_row w4 _ 0 _ _ X4
    have z1 := frozen_of_row w4 _ 1 _ _ X4
    have z2 := frozen_of_row w4 _ 2 _ _ X4
    have z3 := frozen_of_row w4 _ 3 _ _ X4
    clear X4 hb4 b3 B2 X2
    go_wp2_with fail
    refine bodyPost_ret (v := .tuple #[.agg #[.int .i64 0, .int .i64 0, .string ⟨#[]⟩, .slice none 0 0], .bool false]) (by simp [results, Tryd.results5, go_sem, r0, r1, r2, r3]) rfl ?_
    exact ⟨_, _, _, _, rfl, rep_zero, stored4 B4.out w.heap.size (Nat.le_refl _) _ _ _ _⟩

set_option maxRecDepth 100000 in
set_option maxHeartbeats 2000000 in
theorem call_does (s : ByteArray) (args : List V) (B : Nat) (w : World) (a : Value) (hB : B ≤ w.heap.size) (ha : RepL B w args a) (ht : takesB (fnOf s) args = true) :
    Calls Tryd.prog 5 #[.string s, a] w (CallPost (callV (fnOf s) args) w) := by
  have HA := Lib.hid ha
  obtain ⟨aa, ab, ao, ac, rfl, -⟩ := ha
  have HT := Lib.hid ht
  have HD := Lib.hid (do_any ht B)
  have hdo := fnDo_id (takes_lt ht)
  have HCF := Lib.hid (fn_enters (takes_lt ht))
  have HCV : Hid (callV (fnOf s) args = if rightV 4 (doV (fnOf s) args) = true then some (doV (fnOf s) args) else none) := by
    show _ = _
    unfold callV
    rw [ht]
    simp
  clear ht
  have HDO := Lib.hid hdo; clear hdo
  go_enter Tryd.func5, Tryd.ntmps5
  go_wp2_with fail
  have b1 := (Below.refl _ w).alloc (Nat.le_refl _) (.cells #[.int .i64 0, .int .i64 0, .string ⟨#[]⟩, .slice none 0 0] 24)
  have x1 := boxed_new w (.int .i64 0) (.int .i64 0) (.string ⟨#[]⟩) (.slice none 0 0)
  have s1 := World.size_alloc w (.cells #[.int .i64 0, .int .i64 0, .string ⟨#[]⟩, .slice none 0 0] 24)
  generalize w.alloc (.cells #[.int .i64 0, .int .i64 0, .string ⟨#[]⟩, .slice none 0 0] 24) = w1 at *
  refine (find_any s _).mono ?_
  rintro e w2 ⟨rfl, b2⟩
  have HTK := Lib.hid (takes_any (fnOf s) args B)
  rw [HDO.out] at HTK ⊢
  have HS1 := Lib.hid s1
  have B2 := Below.step b1 b2
  have X2 := x1.on b2
  clear b1 b2 x1 HDO
  generalize doV (fnOf s) args = r at *
  generalize fnOf s = k at *
  generalize hid : fnId k = id at *
  clear hid
  go_wp2_with fail
  have b3 := (Below.refl _ w2).alloc (Nat.le_refl _) (.cells #[.int .i64 (fnArity k), .bool (fnList k 0), .bool (fnList k 1), .func (.func id) #[] #[]] 44)
  have F3 := alloc_new' w2 (.cells #[.int .i64 (fnArity k), .bool (fnList k 0), .bool (fnList k 1), .func (.func id) #[] #[]] 44)
  have s3 := World.size_alloc w2 (.cells #[.int .i64 (fnArity k), .bool (fnList k 0), .bool (fnList k 1), .func (.func id) #[] #[]] 44)
  generalize w2.alloc (.cells #[.int .i64 (fnArity k), .bool (fnList k 0), .bool (fnList k 1), .func (.func id) #[] #[]] 44) = w3 at *
  have B3 := Below.step B2 b3
  have hsz3 := B3.size
  refine (HTK.out _ _ (by omega) (RepL.below (fun j hj => B3.block j (by omega)) HA.out)).mono ?_
  rintro e w4 ⟨rfl, hb4⟩
  rw [HT.out]
  have B4 := Lib.hid (Below.step B3 hb4)
  have X4 := Lib.hid ((X2.on b3).on hb4)
  have F4 := (hb4.block w2.heap.size (by omega)).trans F3
  have f3 := cell_of_block' (i := 3) F4 _ rfl
  clear hb4 b3 B2 X2 F3 F4 s3 B3 hsz3 s1
  have hcf := HCF.out
  go_wp2_with fail
  have hsz4 := B4.out.size
  refine (HD.out _ _ (by omega) (RepL.below (fun j hj => B4.out.block j (by omega)) HA.out)).mono ?_
  rintro e w5 ⟨c0, c1, c2, c3, rfl, hr5, hb5⟩
  have HR5 := Lib.hid hr5
  obtain ⟨ga, gc, rfl, rfl, rfl, rfl⟩ := hr5.form
  have B5 := Lib.hid (Below.step B4.out hb5)
  have X5 := Lib.hid (X4.out.on hb5)
  clear hr5 hb5 X4 B4 f3 hcf HCF HD hsz4
  go_wp2_with fail
  have Z6 := boxed_new w5 (.int .i64 r.kind) (.int .i64 r.num) (.string r.text) (.slice ga r.list.length gc)
  have b6 := (Below.refl _ w5).alloc (Nat.le_refl _) (.cells #[.int .i64 r.kind, .int .i64 r.num, .string r.text, .slice ga r.list.length gc] 24)
  generalize w5.alloc (.cells #[.int .i64 r.kind, .int .i64 r.num, .string r.text, .slice ga r.list.length gc] 24) = w6 at *
  have HR6 := Lib.hid (RepV.below (fun j hj => b6.block j hj) r HR5.out)
  refine (right_any r w5.heap.size w6 _ _ _ _ b6.size HR6.out).mono ?_
  rintro e w7 ⟨rfl, hb7⟩
  have B7 := Lib.hid (Below.step B5.out (Below.step b6 hb7))
  have X7 := X5.out.on (Below.step b6 hb7)
  have Z7 := Z6.on hb7
  have HR7 := Lib.hid (RepV.below (fun j hj => hb7.block j (Nat.lt_of_lt_of_le hj b6.size)) r HR6.out)
  have hs7 := (Below.step b6 hb7).size
  obtain ⟨r0, r1, r2, r3⟩ := X7.cells
  obtain ⟨p0, p1, p2, p3⟩ := Z7.cells
  have z0 := frozen_of_row w7 _ 0 _ _ X7
  have z1 := frozen_of_row w7 _ 1 _ _ X7
  have z2 := frozen_of_row w7 _ 2 _ _ X7
  have z3 := frozen_of_row w7 _ 3 _ _ X7
  have HX7 := Lib.hid X7
  clear X7 Z7 Z6 hb7 b6 HR6 HR5 X5 B5
  cases hr : rightV 4 r with
  | false =>
    have HF : Hid (callV k args = none) := by show _ = _; rw [HCV.out, hr]; rfl
    clear hr
    go_wp2_with fail
    refine bodyPost_ret (v := .tuple #[.agg #[.int .i64 0, .int .i64 0, .string ⟨#[]⟩, .slice none 0 0], .bool false]) (by simp [results, Tryd.results5, go_sem, r0, r1, r2, r3]) rfl ?_
    rw [HF.out]
    exact ⟨_, _, _, _, rfl, rep_zero, stored4 B7.out w.heap.size (Nat.le_refl _) _ _ _ _⟩
  | true =>
    have HF : Hid (callV k args = some r) := by show _ = _; rw [HCV.out, hr]; rfl
    clear hr
    go_wp2_with fail
    refine (fresh_any r w5.heap.size w7 _ _ _ _ hs7 HR7.out).mono ?_
    rintro e w8 ⟨c0, c1, c2, c3, rfl, hr8, hb8⟩
    have HR8 := Lib.hid hr8
    obtain ⟨ha8, hc8, rfl, rfl, rfl, rfl⟩ := hr8.form
    have B8 := Lib.hid (Below.step B7.out hb8)
    have X8 := HX7.out.on hb8
    clear hr8 r0 r1 r2 r3 p0 p1 p2 p3 z0 z1 z2 z3
    obtain ⟨r0, r1, r2, r3⟩ := X8.cells
    have z0 := frozen_of_row w8 _ 0 _ _ X8
    have z1 := frozen_of_row w8 _ 1 _ _ X8
    have z2 := frozen_of_row w8 _ 2 _ _ X8
    have z3 := frozen_of_row w8 _ 3 _ _ X8
    have hs8 := B7.out.size
    clear X8 hb8
    go_wp2_with fail
    refine bodyPost_ret (v := .tuple #[.agg #[.int .i64 r.kind, .int .i64 r.num, .string r.text, .slice ha8 r.list.length hc8], .bool true]) (by simp [results, Tryd.results5, go_sem, r0, r1, r2, r3]) rfl ?_
    rw [HF.out]
    refine ⟨_, _, _, _, rfl, HR8.out.on (fun b hb => ⟨by omega, by simp [World.setCell]; exact hb.2⟩) (fun b hb => ?_), stored4 B8.out w.heap.size (Nat.le_refl _) _ _ _ _⟩
    have h1 : b ≠ w.heap.size := by omega
    rw [Below.heap_setCell _ _ _ _ (by simpa using h1), Below.heap_setCell _ _ _ _ (by simpa using h1), Below.heap_setCell _ _ _ _ (by simpa using h1), Below.heap_setCell _ _ _ _ (by simpa using h1)]

theorem call_any (s : ByteArray) (args : List V) (B : Nat) (w : World) (a : Value) (hB : B ≤ w.heap.size) (ha : RepL B w args a) :
    Calls Tryd.prog 5 #[.string s, a] w (CallPost (callV (fnOf s) args) w) := by
  cases ht : takesB (fnOf s) args with
  | true => exact call_does s args B w a hB ha ht
  | false =>
    have e : callV (fnOf s) args = none := by unfold callV; rw [if_neg (by rw [ht]; simp)]
    rw [e]
    exact call_not s args B w a hB ha ht

end Go.Proofs.YtaomlkglodeaoaaDoor
