/-
  The document's own Call of one list: size, first, last, rest.
-/
import Derived.Test.YtaomlkglodeaoaaDoorW18
namespace Go.Proofs.YtaomlkglodeaoaaDoor
open Go.RowKit

theorem call_first_none : callV 5 [listV []] = none := by
  have h0 : doV 5 [listV []] = zeroV := rfl
  unfold callV
  rw [h0, if_neg]
  rintro ⟨_, hr⟩
  exact absurd hr (by decide)
theorem call_last_none : callV 6 [listV []] = none := by
  have h0 : doV 6 [listV []] = zeroV := rfl
  unfold callV
  rw [h0, if_neg]
  rintro ⟨_, hr⟩
  exact absurd hr (by decide)
theorem call_first' {z : V} {l : List V} (h : All3 (z :: l)) (hl : (z :: l).length ≤ 16) : callV 5 [listV (z :: l)] = some z :=
  call_is (takes_list rfl rfl h hl) rfl (right_up 3 z (h z (by simp)))
theorem call_rest' {z : V} {l : List V} (h : All3 (z :: l)) (hl : (z :: l).length ≤ 16) : callV 7 [listV (z :: l)] = some (listV l) :=
  call_is (takes_list rfl rfl h hl) rfl (right_list (fun x hx => h x (List.mem_cons_of_mem _ hx)) (by simp at hl; omega))
theorem call_last' {l : List V} {k : Nat} (hk : k + 1 = l.length) (h : All3 l) (hl : l.length ≤ 16) : callV 6 [listV l] = some (l[k]'(by omega)) := by
  refine call_is (takes_list rfl rfl h hl) ?_ (right_up 3 _ (h _ (List.getElem_mem _)))
  show lastV (listV l) = l[k]
  have e : l.getLast? = some (l[k]'(by omega)) := by
    rw [List.getLast?_eq_getElem?, show l.length - 1 = k by omega, List.getElem?_eq_getElem (by omega)]
  show (match l.getLast? with | none => zeroV | some z => z) = l[k]
  rw [e]
theorem list_one_yes {X : List V} (hr : rightV 4 (listV X) = true) (B : Nat → Prop) (w : World) (sa : Value) (b : Nat) (hB : Under B w.heap.size) (hb : w.heap[b]? = some (.cells #[sa] 22 (0, 0))) (ha : RepLG B w X sa) (hl1 : X.length ≤ 100) :
    Calls Tryd.prog 26 #[.slice (some ⟨b, 0, none⟩) 1 1] w fun e w' => ∃ (ra : Option Addr) (rn rc : Nat), e = .returned (.tuple #[.agg #[.int .i64 4, .int .i64 0, .string ⟨#[]⟩, .slice ra rn rc], .bool true]) ∧ RepLG (fun k => B k ∨ (w.heap.size < k ∧ k < w'.heap.size)) w' X (.slice ra rn rc) ∧ Below w.heap.size w w' :=
  (refList_one X B w sa b hB hb ha hl1).mono fun e w' ⟨ra, rn, rc, he, h1, h2⟩ => ⟨ra, rn, rc, by rw [he, hr]; rfl, h1, h2⟩

set_option maxRecDepth 100000 in
set_option maxHeartbeats 4000000 in
theorem ref_size (s : ByteArray) (l : List V) (B : Nat → Prop) (w : World) (a : Value) (hB : Under B w.heap.size) (ha : RepLG B w [listV l] a) (hs : fnOf s = 4) (h : All3 l) (hl : l.length ≤ 16) :
    Calls Tryd.prog 6 #[.string s, a] w (RefPost B (callV (fnOf s) [listV l]) w) := by
  have e := fn_text (k := 4) (by decide) hs
  have h0 : (s.toList == [102, 95, 99, 111, 110, 115]) = false := by rw [e]; decide
  have h1 : (s.toList == [102, 95, 97, 112, 112, 101, 110, 100]) = false := by rw [e]; decide
  have h2 : (s.toList == [102, 95, 99, 111, 110, 99, 97, 116]) = false := by rw [e]; decide
  have h3 : (s.toList == [102, 95, 109, 101, 109, 98, 101, 114]) = false := by rw [e]; decide
  have h4 : (s.toList == [102, 95, 115, 105, 122, 101]) = true := by rw [e]; decide
  have h5 : (s.toList == [102, 95, 102, 105, 114, 115, 116]) = false := by rw [e]; decide
  have h6 : (s.toList == [102, 95, 108, 97, 115, 116]) = false := by rw [e]; decide
  have h7 : (s.toList == [102, 95, 114, 101, 115, 116]) = false := by rw [e]; decide
  have h8 : (s.toList == [102, 95, 114, 101, 118, 101, 114, 115, 101]) = false := by rw [e]; decide
  have HAR : Hid (fnArity (fnOf s) = 1) := by show _ = _; rw [hs]; rfl
  clear e
  have HRHX : Hid (rightV 4 (listV l) = true) := right_list h hl
  have HC : Hid (callV (fnOf s) [listV l] = some (numV l.length)) := by show _ = _; rw [hs]; exact call_size h hl
  clear hs
  obtain ⟨b, o, cap, fa, fc, rfl, hcap, hx⟩ := arg_one ha
  have HX := Lib.hid hx
  clear ha hx
  have HCAP := Lib.hid hcap
  clear hcap
  go_enter Tryd.func6, Tryd.ntmps6
  go_wp2_with fail
  have k1 := boxed_new w (.int .i64 0) (.int .i64 0) (.string ⟨#[]⟩) (.slice none 0 0)
  have b1 := stands_alloc w (.cells #[.int .i64 0, .int .i64 0, .string ⟨#[]⟩, .slice none 0 0] 24)
  generalize w.alloc (.cells #[.int .i64 0, .int .i64 0, .string ⟨#[]⟩, .slice none 0 0] 24) = w1 at *
  have K1 := Lib.hid k1; have B1 := Lib.hid b1
  clear k1 b1
  refine (refArity_any s _).mono ?_
  rintro e w' ⟨rfl, rfl⟩
  rw [HAR.out]
  obtain ⟨q0, q1, q2, q3⟩ := (HX.out.on hB B1.out).cellsL
  go_wp2_with fail
  refine wp_loop_rounds 4 ?_
  rw [rounds_succ]
  go_wp2_with fail
  refine (refRight_at (listV l) B _ _ _ _ _ (hB.up B1.out.size) (HX.out.on hB B1.out).repL).mono ?_
  rw [HRHX.out]
  rintro e w2 ⟨rfl, b⟩
  have B2 := Lib.hid (Below.step B1.out b); have K2 := Lib.hid (K1.out.on b)
  clear b q0 q1 q2 q3 B1 K1
  obtain ⟨q0, q1, q2, q3⟩ := (HX.out.on hB B2.out).cellsL
  have b := stands_alloc w2 (.cells #[.int .i64 4, .int .i64 0, .string ⟨#[]⟩, .slice fa l.length fc] 24)
  have B3 := Lib.hid (Below.step B2.out b); have K3 := Lib.hid (K2.out.on b); have L3 := Lib.hid (boxed_new w2 (.int .i64 4) (.int .i64 0) (.string ⟨#[]⟩) (.slice fa l.length fc))
  clear b
  go_wp2_with fail
  rw [rounds_succ]
  go_wp2_with fail
  refine (refNumber_any _ _).mono ?_
  rintro e w4 ⟨rfl, b⟩
  have B4 := Lib.hid (Below.step B3.out b); have K4 := Lib.hid (K3.out.on b)
  clear b q0 q1 q2 q3
  obtain ⟨t0, t1, t2, t3⟩ := K4.out.cells
  have z0 := frozen_of_row _ _ 0 _ _ K4.out
  have z1 := frozen_of_row _ _ 1 _ _ K4.out
  have z2 := frozen_of_row _ _ 2 _ _ K4.out
  have z3 := frozen_of_row _ _ 3 _ _ K4.out
  go_wp2_with fail
  refine bodyPost_ret (v := .tuple #[.agg #[.int .i64 1, .int .i64 l.length, .string ⟨#[]⟩, .slice none 0 0], .bool true]) (by simp [results, Tryd.results6, go_sem, t0, t1, t2, t3]) rfl ?_
  rw [HC.out]
  exact ref_some hB B4.out (rep_num ⟨by omega, by omega⟩) _ _ _ _

set_option maxRecDepth 100000 in
set_option maxHeartbeats 4000000 in
theorem ref_first0 (s : ByteArray)  (B : Nat → Prop) (w : World) (a : Value) (hB : Under B w.heap.size) (ha : RepLG B w [listV []] a) (hs : fnOf s = 5)  :
    Calls Tryd.prog 6 #[.string s, a] w (RefPost B (callV (fnOf s) [listV []]) w) := by
  have e := fn_text (k := 5) (by decide) hs
  have h0 : (s.toList == [102, 95, 99, 111, 110, 115]) = false := by rw [e]; decide
  have h1 : (s.toList == [102, 95, 97, 112, 112, 101, 110, 100]) = false := by rw [e]; decide
  have h2 : (s.toList == [102, 95, 99, 111, 110, 99, 97, 116]) = false := by rw [e]; decide
  have h3 : (s.toList == [102, 95, 109, 101, 109, 98, 101, 114]) = false := by rw [e]; decide
  have h4 : (s.toList == [102, 95, 115, 105, 122, 101]) = false := by rw [e]; decide
  have h5 : (s.toList == [102, 95, 102, 105, 114, 115, 116]) = true := by rw [e]; decide
  have h6 : (s.toList == [102, 95, 108, 97, 115, 116]) = false := by rw [e]; decide
  have h7 : (s.toList == [102, 95, 114, 101, 115, 116]) = false := by rw [e]; decide
  have h8 : (s.toList == [102, 95, 114, 101, 118, 101, 114, 115, 101]) = false := by rw [e]; decide
  have HAR : Hid (fnArity (fnOf s) = 1) := by show _ = _; rw [hs]; rfl
  clear e
  have HRHX : Hid (rightV 4 (listV []) = true) := right_list (fun _ h => by cases h) (by simp)
  have HC : Hid (callV (fnOf s) [listV []] = none) := by show _ = _; rw [hs]; exact call_first_none
  clear hs
  obtain ⟨b, o, cap, fa, fc, rfl, hcap, hx⟩ := arg_one ha
  have HX := Lib.hid hx
  clear ha hx
  have HCAP := Lib.hid hcap
  clear hcap
  go_enter Tryd.func6, Tryd.ntmps6
  go_wp2_with fail
  have k1 := boxed_new w (.int .i64 0) (.int .i64 0) (.string ⟨#[]⟩) (.slice none 0 0)
  have b1 := stands_alloc w (.cells #[.int .i64 0, .int .i64 0, .string ⟨#[]⟩, .slice none 0 0] 24)
  generalize w.alloc (.cells #[.int .i64 0, .int .i64 0, .string ⟨#[]⟩, .slice none 0 0] 24) = w1 at *
  have K1 := Lib.hid k1; have B1 := Lib.hid b1
  clear k1 b1
  refine (refArity_any s _).mono ?_
  rintro e w' ⟨rfl, rfl⟩
  rw [HAR.out]
  obtain ⟨q0, q1, q2, q3⟩ := (HX.out.on hB B1.out).cellsL
  simp only [List.length_nil] at q3
  go_wp2_with fail
  refine wp_loop_rounds 4 ?_
  rw [rounds_succ]
  go_wp2_with fail
  refine (refRight_at (listV []) B _ _ _ _ _ (hB.up B1.out.size) (by have h := (HX.out.on hB B1.out).repL; simp only [List.length_nil] at h; exact h)).mono ?_
  rw [HRHX.out]
  rintro e w2 ⟨rfl, b⟩
  have B2 := Lib.hid (Below.step B1.out b); have K2 := Lib.hid (K1.out.on b)
  clear b q0 q1 q2 q3 B1 K1
  obtain ⟨q0, q1, q2, q3⟩ := (HX.out.on hB B2.out).cellsL
  simp only [List.length_nil] at q3
  have b := stands_alloc w2 (.cells #[.int .i64 4, .int .i64 0, .string ⟨#[]⟩, .slice fa 0 fc] 24)
  have B3 := Lib.hid (Below.step B2.out b); have K3 := Lib.hid (K2.out.on b); have L3 := Lib.hid (boxed_new w2 (.int .i64 4) (.int .i64 0) (.string ⟨#[]⟩) (.slice fa 0 fc))
  clear b
  obtain ⟨t0, t1, t2, t3⟩ := K3.out.cells
  have z0 := frozen_of_row _ _ 0 _ _ K3.out
  have z1 := frozen_of_row _ _ 1 _ _ K3.out
  have z2 := frozen_of_row _ _ 2 _ _ K3.out
  have z3 := frozen_of_row _ _ 3 _ _ K3.out
  go_wp2_with fail
  rw [rounds_succ]
  go_wp2_with fail
  refine bodyPost_ret (v := .tuple #[zeroCells, .bool false]) (by simp [results, zeroCells, Tryd.results6, go_sem, t0, t1, t2, t3]) rfl ?_
  rw [HC.out]
  exact ref_none B3.out _ _ _ _

set_option maxRecDepth 100000 in
set_option maxHeartbeats 4000000 in
theorem ref_last0 (s : ByteArray)  (B : Nat → Prop) (w : World) (a : Value) (hB : Under B w.heap.size) (ha : RepLG B w [listV []] a) (hs : fnOf s = 6)  :
    Calls Tryd.prog 6 #[.string s, a] w (RefPost B (callV (fnOf s) [listV []]) w) := by
  have e := fn_text (k := 6) (by decide) hs
  have h0 : (s.toList == [102, 95, 99, 111, 110, 115]) = false := by rw [e]; decide
  have h1 : (s.toList == [102, 95, 97, 112, 112, 101, 110, 100]) = false := by rw [e]; decide
  have h2 : (s.toList == [102, 95, 99, 111, 110, 99, 97, 116]) = false := by rw [e]; decide
  have h3 : (s.toList == [102, 95, 109, 101, 109, 98, 101, 114]) = false := by rw [e]; decide
  have h4 : (s.toList == [102, 95, 115, 105, 122, 101]) = false := by rw [e]; decide
  have h5 : (s.toList == [102, 95, 102, 105, 114, 115, 116]) = false := by rw [e]; decide
  have h6 : (s.toList == [102, 95, 108, 97, 115, 116]) = true := by rw [e]; decide
  have h7 : (s.toList == [102, 95, 114, 101, 115, 116]) = false := by rw [e]; decide
  have h8 : (s.toList == [102, 95, 114, 101, 118, 101, 114, 115, 101]) = false := by rw [e]; decide
  have HAR : Hid (fnArity (fnOf s) = 1) := by show _ = _; rw [hs]; rfl
  clear e
  have HRHX : Hid (rightV 4 (listV []) = true) := right_list (fun _ h => by cases h) (by simp)
  have HC : Hid (callV (fnOf s) [listV []] = none) := by show _ = _; rw [hs]; exact call_last_none
  clear hs
  obtain ⟨b, o, cap, fa, fc, rfl, hcap, hx⟩ := arg_one ha
  have HX := Lib.hid hx
  clear ha hx
  have HCAP := Lib.hid hcap
  clear hcap
  go_enter Tryd.func6, Tryd.ntmps6
  go_wp2_with fail
  have k1 := boxed_new w (.int .i64 0) (.int .i64 0) (.string ⟨#[]⟩) (.slice none 0 0)
  have b1 := stands_alloc w (.cells #[.int .i64 0, .int .i64 0, .string ⟨#[]⟩, .slice none 0 0] 24)
  generalize w.alloc (.cells #[.int .i64 0, .int .i64 0, .string ⟨#[]⟩, .slice none 0 0] 24) = w1 at *
  have K1 := Lib.hid k1; have B1 := Lib.hid b1
  clear k1 b1
  refine (refArity_any s _).mono ?_
  rintro e w' ⟨rfl, rfl⟩
  rw [HAR.out]
  obtain ⟨q0, q1, q2, q3⟩ := (HX.out.on hB B1.out).cellsL
  simp only [List.length_nil] at q3
  go_wp2_with fail
  refine wp_loop_rounds 4 ?_
  rw [rounds_succ]
  go_wp2_with fail
  refine (refRight_at (listV []) B _ _ _ _ _ (hB.up B1.out.size) (by have h := (HX.out.on hB B1.out).repL; simp only [List.length_nil] at h; exact h)).mono ?_
  rw [HRHX.out]
  rintro e w2 ⟨rfl, b⟩
  have B2 := Lib.hid (Below.step B1.out b); have K2 := Lib.hid (K1.out.on b)
  clear b q0 q1 q2 q3 B1 K1
  obtain ⟨q0, q1, q2, q3⟩ := (HX.out.on hB B2.out).cellsL
  simp only [List.length_nil] at q3
  have b := stands_alloc w2 (.cells #[.int .i64 4, .int .i64 0, .string ⟨#[]⟩, .slice fa 0 fc] 24)
  have B3 := Lib.hid (Below.step B2.out b); have K3 := Lib.hid (K2.out.on b); have L3 := Lib.hid (boxed_new w2 (.int .i64 4) (.int .i64 0) (.string ⟨#[]⟩) (.slice fa 0 fc))
  clear b
  obtain ⟨t0, t1, t2, t3⟩ := K3.out.cells
  have z0 := frozen_of_row _ _ 0 _ _ K3.out
  have z1 := frozen_of_row _ _ 1 _ _ K3.out
  have z2 := frozen_of_row _ _ 2 _ _ K3.out
  have z3 := frozen_of_row _ _ 3 _ _ K3.out
  go_wp2_with fail
  rw [rounds_succ]
  go_wp2_with fail
  refine bodyPost_ret (v := .tuple #[zeroCells, .bool false]) (by simp [results, zeroCells, Tryd.results6, go_sem, t0, t1, t2, t3]) rfl ?_
  rw [HC.out]
  exact ref_none B3.out _ _ _ _

set_option maxRecDepth 100000 in
set_option maxHeartbeats 4000000 in
theorem ref_rest0 (s : ByteArray)  (B : Nat → Prop) (w : World) (a : Value) (hB : Under B w.heap.size) (ha : RepLG B w [listV []] a) (hs : fnOf s = 7)  :
    Calls Tryd.prog 6 #[.string s, a] w (RefPost B (callV (fnOf s) [listV []]) w) := by
  have e := fn_text (k := 7) (by decide) hs
  have h0 : (s.toList == [102, 95, 99, 111, 110, 115]) = false := by rw [e]; decide
  have h1 : (s.toList == [102, 95, 97, 112, 112, 101, 110, 100]) = false := by rw [e]; decide
  have h2 : (s.toList == [102, 95, 99, 111, 110, 99, 97, 116]) = false := by rw [e]; decide
  have h3 : (s.toList == [102, 95, 109, 101, 109, 98, 101, 114]) = false := by rw [e]; decide
  have h4 : (s.toList == [102, 95, 115, 105, 122, 101]) = false := by rw [e]; decide
  have h5 : (s.toList == [102, 95, 102, 105, 114, 115, 116]) = false := by rw [e]; decide
  have h6 : (s.toList == [102, 95, 108, 97, 115, 116]) = false := by rw [e]; decide
  have h7 : (s.toList == [102, 95, 114, 101, 115, 116]) = true := by rw [e]; decide
  have h8 : (s.toList == [102, 95, 114, 101, 118, 101, 114, 115, 101]) = false := by rw [e]; decide
  have HAR : Hid (fnArity (fnOf s) = 1) := by show _ = _; rw [hs]; rfl
  clear e
  have HRHX : Hid (rightV 4 (listV []) = true) := right_list (fun _ h => by cases h) (by simp)
  have HC : Hid (callV (fnOf s) [listV []] = none) := by show _ = _; rw [hs]; exact call_rest_none
  clear hs
  obtain ⟨b, o, cap, fa, fc, rfl, hcap, hx⟩ := arg_one ha
  have HX := Lib.hid hx
  clear ha hx
  have HCAP := Lib.hid hcap
  clear hcap
  go_enter Tryd.func6, Tryd.ntmps6
  go_wp2_with fail
  have k1 := boxed_new w (.int .i64 0) (.int .i64 0) (.string ⟨#[]⟩) (.slice none 0 0)
  have b1 := stands_alloc w (.cells #[.int .i64 0, .int .i64 0, .string ⟨#[]⟩, .slice none 0 0] 24)
  generalize w.alloc (.cells #[.int .i64 0, .int .i64 0, .string ⟨#[]⟩, .slice none 0 0] 24) = w1 at *
  have K1 := Lib.hid k1; have B1 := Lib.hid b1
  clear k1 b1
  refine (refArity_any s _).mono ?_
  rintro e w' ⟨rfl, rfl⟩
  rw [HAR.out]
  obtain ⟨q0, q1, q2, q3⟩ := (HX.out.on hB B1.out).cellsL
  simp only [List.length_nil] at q3
  go_wp2_with fail
  refine wp_loop_rounds 4 ?_
  rw [rounds_succ]
  go_wp2_with fail
  refine (refRight_at (listV []) B _ _ _ _ _ (hB.up B1.out.size) (by have h := (HX.out.on hB B1.out).repL; simp only [List.length_nil] at h; exact h)).mono ?_
  rw [HRHX.out]
  rintro e w2 ⟨rfl, b⟩
  have B2 := Lib.hid (Below.step B1.out b); have K2 := Lib.hid (K1.out.on b)
  clear b q0 q1 q2 q3 B1 K1
  obtain ⟨q0, q1, q2, q3⟩ := (HX.out.on hB B2.out).cellsL
  simp only [List.length_nil] at q3
  have b := stands_alloc w2 (.cells #[.int .i64 4, .int .i64 0, .string ⟨#[]⟩, .slice fa 0 fc] 24)
  have B3 := Lib.hid (Below.step B2.out b); have K3 := Lib.hid (K2.out.on b); have L3 := Lib.hid (boxed_new w2 (.int .i64 4) (.int .i64 0) (.string ⟨#[]⟩) (.slice fa 0 fc))
  clear b
  obtain ⟨t0, t1, t2, t3⟩ := K3.out.cells
  have z0 := frozen_of_row _ _ 0 _ _ K3.out
  have z1 := frozen_of_row _ _ 1 _ _ K3.out
  have z2 := frozen_of_row _ _ 2 _ _ K3.out
  have z3 := frozen_of_row _ _ 3 _ _ K3.out
  go_wp2_with fail
  rw [rounds_succ]
  go_wp2_with fail
  refine bodyPost_ret (v := .tuple #[zeroCells, .bool false]) (by simp [results, zeroCells, Tryd.results6, go_sem, t0, t1, t2, t3]) rfl ?_
  rw [HC.out]
  exact ref_none B3.out _ _ _ _

set_option maxRecDepth 100000 in
set_option maxHeartbeats 4000000 in
theorem ref_first1 (s : ByteArray) (z : V) (l : List V) (B : Nat → Prop) (w : World) (a : Value) (hB : Under B w.heap.size) (ha : RepLG B w [listV (z :: l)] a) (hs : fnOf s = 5) (h : All3 (z :: l)) (hl : (z :: l).length ≤ 16) :
    Calls Tryd.prog 6 #[.string s, a] w (RefPost B (callV (fnOf s) [listV (z :: l)]) w) := by
  have e := fn_text (k := 5) (by decide) hs
  have h0 : (s.toList == [102, 95, 99, 111, 110, 115]) = false := by rw [e]; decide
  have h1 : (s.toList == [102, 95, 97, 112, 112, 101, 110, 100]) = false := by rw [e]; decide
  have h2 : (s.toList == [102, 95, 99, 111, 110, 99, 97, 116]) = false := by rw [e]; decide
  have h3 : (s.toList == [102, 95, 109, 101, 109, 98, 101, 114]) = false := by rw [e]; decide
  have h4 : (s.toList == [102, 95, 115, 105, 122, 101]) = false := by rw [e]; decide
  have h5 : (s.toList == [102, 95, 102, 105, 114, 115, 116]) = true := by rw [e]; decide
  have h6 : (s.toList == [102, 95, 108, 97, 115, 116]) = false := by rw [e]; decide
  have h7 : (s.toList == [102, 95, 114, 101, 115, 116]) = false := by rw [e]; decide
  have h8 : (s.toList == [102, 95, 114, 101, 118, 101, 114, 115, 101]) = false := by rw [e]; decide
  have HAR : Hid (fnArity (fnOf s) = 1) := by show _ = _; rw [hs]; rfl
  clear e
  have HRHX : Hid (rightV 4 (listV (z :: l)) = true) := right_list h hl
  have HC : Hid (callV (fnOf s) [listV (z :: l)] = some z) := by show _ = _; rw [hs]; exact call_first' h hl
  clear hs
  obtain ⟨b, o, cap, fa, fc, rfl, hcap, hx⟩ := arg_one ha
  have HX := Lib.hid hx
  clear ha hx
  have HCAP := Lib.hid hcap
  clear hcap
  go_enter Tryd.func6, Tryd.ntmps6
  go_wp2_with fail
  have k1 := boxed_new w (.int .i64 0) (.int .i64 0) (.string ⟨#[]⟩) (.slice none 0 0)
  have b1 := stands_alloc w (.cells #[.int .i64 0, .int .i64 0, .string ⟨#[]⟩, .slice none 0 0] 24)
  generalize w.alloc (.cells #[.int .i64 0, .int .i64 0, .string ⟨#[]⟩, .slice none 0 0] 24) = w1 at *
  have K1 := Lib.hid k1; have B1 := Lib.hid b1
  clear k1 b1
  refine (refArity_any s _).mono ?_
  rintro e w' ⟨rfl, rfl⟩
  rw [HAR.out]
  obtain ⟨-, -, lb, lo, -, -, rfl, -⟩ := RepLG.at HX.out.lst 0 (by simp)
  simp only [List.length_cons] at hl
  obtain ⟨q0, q1, q2, q3⟩ := (HX.out.on hB B1.out).cellsL
  simp only [List.length_cons] at q3
  go_wp2_with fail
  refine wp_loop_rounds 4 ?_
  rw [rounds_succ]
  go_wp2_with fail
  refine (refRight_at (listV (z :: l)) B _ _ _ _ _ (hB.up B1.out.size) (by have h := (HX.out.on hB B1.out).repL; simp only [List.length_cons] at h; exact h)).mono ?_
  rw [HRHX.out]
  rintro e w2 ⟨rfl, b⟩
  have B2 := Lib.hid (Below.step B1.out b); have K2 := Lib.hid (K1.out.on b)
  clear b q0 q1 q2 q3 B1 K1
  obtain ⟨q0, q1, q2, q3⟩ := (HX.out.on hB B2.out).cellsL
  simp only [List.length_cons] at q3
  have b := stands_alloc w2 (.cells #[.int .i64 4, .int .i64 0, .string ⟨#[]⟩, .slice (some ⟨lb, lo, none⟩) (l.length + 1) fc] 24)
  have B3 := Lib.hid (Below.step B2.out b); have K3 := Lib.hid (K2.out.on b); have L3 := Lib.hid (boxed_new w2 (.int .i64 4) (.int .i64 0) (.string ⟨#[]⟩) (.slice (some ⟨lb, lo, none⟩) (l.length + 1) fc))
  clear b
  obtain ⟨t0, t1, t2, t3⟩ := K3.out.cells
  have z0 := frozen_of_row _ _ 0 _ _ K3.out
  have z1 := frozen_of_row _ _ 1 _ _ K3.out
  have z2 := frozen_of_row _ _ 2 _ _ K3.out
  have z3 := frozen_of_row _ _ 3 _ _ K3.out
  obtain ⟨-, -, lb', lo', za', zc', he', -, y0, y1, y2, y3, yy⟩ := RepLG.at (HX.out.on hB B3.out).lst 0 (by simp)
  cases he'
  simp only [List.getElem_cons_zero, Nat.zero_mul, Nat.add_zero] at y0 y1 y2 y3 yy
  have YY := Lib.hid yy
  clear yy
  have hne : ((l.length : Int) + 1 == 0) = false := beq_eq_false_iff_ne.2 (by omega)
  have hne2 : (((l.length + 1 : Nat) : Int) == 0) = false := beq_eq_false_iff_ne.2 (by omega)
  go_wp2_with fail
  rw [rounds_succ]
  go_wp2_with fail
  refine bodyPost_ret (v := .tuple #[.agg #[.int .i64 z.kind, .int .i64 z.num, .string z.text, .slice za' z.list.length zc'], .bool true]) (by simp [results, Tryd.results6, go_sem, t0, t1, t2, t3]) rfl ?_
  rw [HC.out]
  exact ref_some hB B3.out (RepG.on (fun j hj => .inl hj) (fun _ _ => rfl) z YY.out) _ _ _ _

set_option maxRecDepth 100000 in
set_option maxHeartbeats 4000000 in
theorem ref_last1 (s : ByteArray) (l : List V) (k : Nat) (B : Nat → Prop) (w : World) (a : Value) (hB : Under B w.heap.size) (ha : RepLG B w [listV l] a) (hs : fnOf s = 6) (hk : k + 1 = l.length) (h : All3 l) (hl : l.length ≤ 16) :
    Calls Tryd.prog 6 #[.string s, a] w (RefPost B (callV (fnOf s) [listV l]) w) := by
  have e := fn_text (k := 6) (by decide) hs
  have h0 : (s.toList == [102, 95, 99, 111, 110, 115]) = false := by rw [e]; decide
  have h1 : (s.toList == [102, 95, 97, 112, 112, 101, 110, 100]) = false := by rw [e]; decide
  have h2 : (s.toList == [102, 95, 99, 111, 110, 99, 97, 116]) = false := by rw [e]; decide
  have h3 : (s.toList == [102, 95, 109, 101, 109, 98, 101, 114]) = false := by rw [e]; decide
  have h4 : (s.toList == [102, 95, 115, 105, 122, 101]) = false := by rw [e]; decide
  have h5 : (s.toList == [102, 95, 102, 105, 114, 115, 116]) = false := by rw [e]; decide
  have h6 : (s.toList == [102, 95, 108, 97, 115, 116]) = true := by rw [e]; decide
  have h7 : (s.toList == [102, 95, 114, 101, 115, 116]) = false := by rw [e]; decide
  have h8 : (s.toList == [102, 95, 114, 101, 118, 101, 114, 115, 101]) = false := by rw [e]; decide
  have HAR : Hid (fnArity (fnOf s) = 1) := by show _ = _; rw [hs]; rfl
  clear e
  have HRHX : Hid (rightV 4 (listV l) = true) := right_list h hl
  obtain ⟨z, hz⟩ : ∃ z, l[k]? = some z := ⟨l[k]'(by omega), List.getElem?_eq_getElem (by omega)⟩
  have HC : Hid (callV (fnOf s) [listV l] = some z) := by show _ = _; rw [hs, call_last' hk h hl, ← hz, List.getElem?_eq_getElem (by omega)]
  have HZ := Lib.hid hz
  clear hs
  obtain ⟨b, o, cap, fa, fc, rfl, hcap, hx⟩ := arg_one ha
  have HX := Lib.hid hx
  clear ha hx
  have HCAP := Lib.hid hcap
  clear hcap
  go_enter Tryd.func6, Tryd.ntmps6
  go_wp2_with fail
  have k1 := boxed_new w (.int .i64 0) (.int .i64 0) (.string ⟨#[]⟩) (.slice none 0 0)
  have b1 := stands_alloc w (.cells #[.int .i64 0, .int .i64 0, .string ⟨#[]⟩, .slice none 0 0] 24)
  generalize w.alloc (.cells #[.int .i64 0, .int .i64 0, .string ⟨#[]⟩, .slice none 0 0] 24) = w1 at *
  have K1 := Lib.hid k1; have B1 := Lib.hid b1
  clear k1 b1
  refine (refArity_any s _).mono ?_
  rintro e w' ⟨rfl, rfl⟩
  rw [HAR.out]
  obtain ⟨-, -, lb, lo, -, -, rfl, -⟩ := RepLG.at HX.out.lst 0 (by omega)
  have HKL := Lib.hid hk
  have hk16 : k + 1 ≤ 16 := by omega
  clear hk hl hz h
  obtain ⟨q0, q1, q2, q3⟩ := (HX.out.on hB B1.out).cellsL
  rw [← HKL.out] at q3
  go_wp2_with fail
  refine wp_loop_rounds 4 ?_
  rw [rounds_succ]
  go_wp2_with fail
  refine (refRight_at (listV l) B _ _ _ _ _ (hB.up B1.out.size) (by have h := (HX.out.on hB B1.out).repL; rw [← HKL.out] at h; exact h)).mono ?_
  rw [HRHX.out]
  rintro e w2 ⟨rfl, b⟩
  have B2 := Lib.hid (Below.step B1.out b); have K2 := Lib.hid (K1.out.on b)
  clear b q0 q1 q2 q3 B1 K1
  obtain ⟨q0, q1, q2, q3⟩ := (HX.out.on hB B2.out).cellsL
  rw [← HKL.out] at q3
  have b := stands_alloc w2 (.cells #[.int .i64 4, .int .i64 0, .string ⟨#[]⟩, .slice (some ⟨lb, lo, none⟩) (k + 1) fc] 24)
  have B3 := Lib.hid (Below.step B2.out b); have K3 := Lib.hid (K2.out.on b); have L3 := Lib.hid (boxed_new w2 (.int .i64 4) (.int .i64 0) (.string ⟨#[]⟩) (.slice (some ⟨lb, lo, none⟩) (k + 1) fc))
  clear b
  obtain ⟨t0, t1, t2, t3⟩ := K3.out.cells
  have z0 := frozen_of_row _ _ 0 _ _ K3.out
  have z1 := frozen_of_row _ _ 1 _ _ K3.out
  have z2 := frozen_of_row _ _ 2 _ _ K3.out
  have z3 := frozen_of_row _ _ 3 _ _ K3.out
  have hkl : k < l.length := by have := HKL.out; omega
  obtain ⟨-, -, lb', lo', za', zc', he', -, y0, y1, y2, y3, yy⟩ := RepLG.at (HX.out.on hB B3.out).lst k hkl
  cases he'
  have ez : l[k]'hkl = z := by have h := HZ.out; rw [List.getElem?_eq_getElem hkl] at h; exact Option.some.inj h
  rw [ez] at y0 y1 y2 y3 yy
  have YY := Lib.hid yy
  clear yy ez hkl
  have hne : ((k : Int) + 1 == 0) = false := beq_eq_false_iff_ne.2 (by omega)
  have hne2 : (((k + 1 : Nat) : Int) == 0) = false := beq_eq_false_iff_ne.2 (by omega)
  go_wp2_with fail
  rw [rounds_succ]
  go_wp2_with fail
  refine bodyPost_ret (v := .tuple #[.agg #[.int .i64 z.kind, .int .i64 z.num, .string z.text, .slice za' z.list.length zc'], .bool true]) (by simp [results, Tryd.results6, go_sem, t0, t1, t2, t3]) rfl ?_
  rw [HC.out]
  exact ref_some hB B3.out (RepG.on (fun j hj => .inl hj) (fun _ _ => rfl) z YY.out) _ _ _ _

end Go.Proofs.YtaomlkglodeaoaaDoor
