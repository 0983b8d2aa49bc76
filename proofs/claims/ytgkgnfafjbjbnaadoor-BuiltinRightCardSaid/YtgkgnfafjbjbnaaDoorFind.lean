/-
  builtin's table of functions: what find and Arity tell of any name.
-/
import Derived.Test.YtgkgnfafjbjbnaaDoorTurned
import Derived.Laws.EntriesVeiled
namespace Go.Proofs.YtgkgnfafjbjbnaaDoor
open Go.RowKit

/-- The functions' names, by their numbers here. -/
def fname : Nat → List UInt8
  | 0 => [102, 95, 99, 111, 110, 115]
  | 1 => [102, 95, 97, 112, 112, 101, 110, 100]
  | 2 => [102, 95, 99, 111, 110, 99, 97, 116]
  | 3 => [102, 95, 109, 101, 109, 98, 101, 114]
  | 4 => [102, 95, 115, 105, 122, 101]
  | 5 => [102, 95, 102, 105, 114, 115, 116]
  | 6 => [102, 95, 108, 97, 115, 116]
  | 7 => [102, 95, 114, 101, 115, 116]
  | 8 => [102, 95, 114, 101, 118, 101, 114, 115, 101]
  | _ => []
/-- Which function a name is of; 9: of none. -/
def fnOf (s : ByteArray) : Nat :=
  if (s.toList == [102, 95, 99, 111, 110, 115]) = true then 0
  else if (s.toList == [102, 95, 97, 112, 112, 101, 110, 100]) = true then 1
  else if (s.toList == [102, 95, 99, 111, 110, 99, 97, 116]) = true then 2
  else if (s.toList == [102, 95, 109, 101, 109, 98, 101, 114]) = true then 3
  else if (s.toList == [102, 95, 115, 105, 122, 101]) = true then 4
  else if (s.toList == [102, 95, 102, 105, 114, 115, 116]) = true then 5
  else if (s.toList == [102, 95, 108, 97, 115, 116]) = true then 6
  else if (s.toList == [102, 95, 114, 101, 115, 116]) = true then 7
  else if (s.toList == [102, 95, 114, 101, 118, 101, 114, 115, 101]) = true then 8
  else 9
def fnArity : Nat → Int
  | 0 => 2
  | 1 => 2
  | 2 => 2
  | 3 => 2
  | 4 => 1
  | 5 => 1
  | 6 => 1
  | 7 => 1
  | 8 => 1
  | _ => -1
def fnList : Nat → Nat → Bool
  | 0, 0 => false | 0, 1 => true
  | 1, 0 => true | 1, 1 => false
  | 2, 0 => true | 2, 1 => true
  | 3, 0 => true | 3, 1 => false
  | 4, 0 => true | 4, 1 => false
  | 5, 0 => true | 5, 1 => false
  | 6, 0 => true | 6, 1 => false
  | 7, 0 => true | 7, 1 => false
  | 8, 0 => true | 8, 1 => false
  | _, _ => false
def fnDo : Nat → Value
  | 0 => .func (.func 75) #[] #[]
  | 1 => .func (.func 76) #[] #[]
  | 2 => .func (.func 77) #[] #[]
  | 3 => .func (.func 78) #[] #[]
  | 4 => .func (.func 79) #[] #[]
  | 5 => .func (.func 80) #[] #[]
  | 6 => .func (.func 81) #[] #[]
  | 7 => .func (.func 82) #[] #[]
  | 8 => .func (.func 83) #[] #[]
  | _ => .nilFunc
def FindPost (k : Nat) (w : World) (e : Ending) (w' : World) : Prop := e = .returned (.agg #[.int .i64 (fnArity k), .bool (fnList k 0), .bool (fnList k 1), fnDo k]) ∧ Below w.heap.size w w'
set_option maxRecDepth 100000 in
set_option maxHeartbeats 1000000 in
theorem find_0 (s : ByteArray) (w : World) (h0 : (s.toList == [102, 95, 99, 111, 110, 115]) = true) : Calls Tryd.prog 50 #[.string s] w (FindPost 0 w) := by
  go_enter Tryd.func50, Tryd.ntmps50
  go_wp2_with fail
  exact bodyPost_ret (v := .agg #[.int .i64 2, .bool false, .bool true, .func (.func 75) #[] #[]]) (by simp [results, Tryd.results50, go_sem]) rfl ⟨rfl, (Below.refl _ _).alloc (Nat.le_refl _) _⟩
set_option maxRecDepth 100000 in
set_option maxHeartbeats 1000000 in
theorem find_1 (s : ByteArray) (w : World) (h0 : (s.toList == [102, 95, 99, 111, 110, 115]) = false) (h1 : (s.toList == [102, 95, 97, 112, 112, 101, 110, 100]) = true) : Calls Tryd.prog 50 #[.string s] w (FindPost 1 w) := by
  go_enter Tryd.func50, Tryd.ntmps50
  go_wp2_with fail
  exact bodyPost_ret (v := .agg #[.int .i64 2, .bool true, .bool false, .func (.func 76) #[] #[]]) (by simp [results, Tryd.results50, go_sem]) rfl ⟨rfl, (Below.refl _ _).alloc (Nat.le_refl _) _⟩
set_option maxRecDepth 100000 in
set_option maxHeartbeats 1000000 in
theorem find_2 (s : ByteArray) (w : World) (h0 : (s.toList == [102, 95, 99, 111, 110, 115]) = false) (h1 : (s.toList == [102, 95, 97, 112, 112, 101, 110, 100]) = false) (h2 : (s.toList == [102, 95, 99, 111, 110, 99, 97, 116]) = true) : Calls Tryd.prog 50 #[.string s] w (FindPost 2 w) := by
  go_enter Tryd.func50, Tryd.ntmps50
  go_wp2_with fail
  exact bodyPost_ret (v := .agg #[.int .i64 2, .bool true, .bool true, .func (.func 77) #[] #[]]) (by simp [results, Tryd.results50, go_sem]) rfl ⟨rfl, (Below.refl _ _).alloc (Nat.le_refl _) _⟩
set_option maxRecDepth 100000 in
set_option maxHeartbeats 1000000 in
theorem find_3 (s : ByteArray) (w : World) (h0 : (s.toList == [102, 95, 99, 111, 110, 115]) = false) (h1 : (s.toList == [102, 95, 97, 112, 112, 101, 110, 100]) = false) (h2 : (s.toList == [102, 95, 99, 111, 110, 99, 97, 116]) = false) (h3 : (s.toList == [102, 95, 109, 101, 109, 98, 101, 114]) = true) : Calls Tryd.prog 50 #[.string s] w (FindPost 3 w) := by
  go_enter Tryd.func50, Tryd.ntmps50
  go_wp2_with fail
  exact bodyPost_ret (v := .agg #[.int .i64 2, .bool true, .bool false, .func (.func 78) #[] #[]]) (by simp [results, Tryd.results50, go_sem]) rfl ⟨rfl, (Below.refl _ _).alloc (Nat.le_refl _) _⟩
set_option maxRecDepth 100000 in
set_option maxHeartbeats 1000000 in
theorem find_4 (s : ByteArray) (w : World) (h0 : (s.toList == [102, 95, 99, 111, 110, 115]) = false) (h1 : (s.toList == [102, 95, 97, 112, 112, 101, 110, 100]) = false) (h2 : (s.toList == [102, 95, 99, 111, 110, 99, 97, 116]) = false) (h3 : (s.toList == [102, 95, 109, 101, 109, 98, 101, 114]) = false) (h4 : (s.toList == [102, 95, 115, 105, 122, 101]) = true) : Calls Tryd.prog 50 #[.string s] w (FindPost 4 w) := by
  go_enter Tryd.func50, Tryd.ntmps50
  go_wp2_with fail
  exact bodyPost_ret (v := .agg #[.int .i64 1, .bool true, .bool false, .func (.func 79) #[] #[]]) (by simp [results, Tryd.results50, go_sem]) rfl ⟨rfl, (Below.refl _ _).alloc (Nat.le_refl _) _⟩
set_option maxRecDepth 100000 in
set_option maxHeartbeats 1000000 in
theorem find_5 (s : ByteArray) (w : World) (h0 : (s.toList == [102, 95, 99, 111, 110, 115]) = false) (h1 : (s.toList == [102, 95, 97, 112, 112, 101, 110, 100]) = false) (h2 : (s.toList == [102, 95, 99, 111, 110, 99, 97, 116]) = false) (h3 : (s.toList == [102, 95, 109, 101, 109, 98, 101, 114]) = false) (h4 : (s.toList == [102, 95, 115, 105, 122, 101]) = false) (h5 : (s.toList == [102, 95, 102, 105, 114, 115, 116]) = true) : Calls Tryd.prog 50 #[.string s] w (FindPost 5 w) := by
  go_enter Tryd.func50, Tryd.ntmps50
  go_wp2_with fail
  exact bodyPost_ret (v := .agg #[.int .i64 1, .bool true, .bool false, .func (.func 80) #[] #[]]) (by simp [results, Tryd.results50, go_sem]) rfl ⟨rfl, (Below.refl _ _).alloc (Nat.le_refl _) _⟩
set_option maxRecDepth 100000 in
set_option maxHeartbeats 1000000 in
theorem find_6 (s : ByteArray) (w : World) (h0 : (s.toList == [102, 95, 99, 111, 110, 115]) = false) (h1 : (s.toList == [102, 95, 97, 112, 112, 101, 110, 100]) = false) (h2 : (s.toList == [102, 95, 99, 111, 110, 99, 97, 116]) = false) (h3 : (s.toList == [102, 95, 109, 101, 109, 98, 101, 114]) = false) (h4 : (s.toList == [102, 95, 115, 105, 122, 101]) = false) (h5 : (s.toList == [102, 95, 102, 105, 114, 115, 116]) = false) (h6 : (s.toList == [102, 95, 108, 97, 115, 116]) = true) : Calls Tryd.prog 50 #[.string s] w (FindPost 6 w) := by
  go_enter Tryd.func50, Tryd.ntmps50
  go_wp2_with fail
  exact bodyPost_ret (v := .agg #[.int .i64 1, .bool true, .bool false, .func (.func 81) #[] #[]]) (by simp [results, Tryd.results50, go_sem]) rfl ⟨rfl, (Below.refl _ _).alloc (Nat.le_refl _) _⟩
set_option maxRecDepth 100000 in
set_option maxHeartbeats 1000000 in
theorem find_7 (s : ByteArray) (w : World) (h0 : (s.toList == [102, 95, 99, 111, 110, 115]) = false) (h1 : (s.toList == [102, 95, 97, 112, 112, 101, 110, 100]) = false) (h2 : (s.toList == [102, 95, 99, 111, 110, 99, 97, 116]) = false) (h3 : (s.toList == [102, 95, 109, 101, 109, 98, 101, 114]) = false) (h4 : (s.toList == [102, 95, 115, 105, 122, 101]) = false) (h5 : (s.toList == [102, 95, 102, 105, 114, 115, 116]) = false) (h6 : (s.toList == [102, 95, 108, 97, 115, 116]) = false) (h7 : (s.toList == [102, 95, 114, 101, 115, 116]) = true) : Calls Tryd.prog 50 #[.string s] w (FindPost 7 w) := by
  go_enter Tryd.func50, Tryd.ntmps50
  go_wp2_with fail
  exact bodyPost_ret (v := .agg #[.int .i64 1, .bool true, .bool false, .func (.func 82) #[] #[]]) (by simp [results, Tryd.results50, go_sem]) rfl ⟨rfl, (Below.refl _ _).alloc (Nat.le_refl _) _⟩
set_option maxRecDepth 100000 in
set_option maxHeartbeats 1000000 in
theorem find_8 (s : ByteArray) (w : World) (h0 : (s.toList == [102, 95, 99, 111, 110, 115]) = false) (h1 : (s.toList == [102, 95, 97, 112, 112, 101, 110, 100]) = false) (h2 : (s.toList == [102, 95, 99, 111, 110, 99, 97, 116]) = false) (h3 : (s.toList == [102, 95, 109, 101, 109, 98, 101, 114]) = false) (h4 : (s.toList == [102, 95, 115, 105, 122, 101]) = false) (h5 : (s.toList == [102, 95, 102, 105, 114, 115, 116]) = false) (h6 : (s.toList == [102, 95, 108, 97, 115, 116]) = false) (h7 : (s.toList == [102, 95, 114, 101, 115, 116]) = false) (h8 : (s.toList == [102, 95, 114, 101, 118, 101, 114, 115, 101]) = true) : Calls Tryd.prog 50 #[.string s] w (FindPost 8 w) := by
  go_enter Tryd.func50, Tryd.ntmps50
  go_wp2_with fail
  exact bodyPost_ret (v := .agg #[.int .i64 1, .bool true, .bool false, .func (.func 83) #[] #[]]) (by simp [results, Tryd.results50, go_sem]) rfl ⟨rfl, (Below.refl _ _).alloc (Nat.le_refl _) _⟩
set_option maxRecDepth 100000 in
set_option maxHeartbeats 1000000 in
theorem find_9 (s : ByteArray) (w : World) (h0 : (s.toList == [102, 95, 99, 111, 110, 115]) = false) (h1 : (s.toList == [102, 95, 97, 112, 112, 101, 110, 100]) = false) (h2 : (s.toList == [102, 95, 99, 111, 110, 99, 97, 116]) = false) (h3 : (s.toList == [102, 95, 109, 101, 109, 98, 101, 114]) = false) (h4 : (s.toList == [102, 95, 115, 105, 122, 101]) = false) (h5 : (s.toList == [102, 95, 102, 105, 114, 115, 116]) = false) (h6 : (s.toList == [102, 95, 108, 97, 115, 116]) = false) (h7 : (s.toList == [102, 95, 114, 101, 115, 116]) = false) (h8 : (s.toList == [102, 95, 114, 101, 118, 101, 114, 115, 101]) = false) : Calls Tryd.prog 50 #[.string s] w (FindPost 9 w) := by
  go_enter Tryd.func50, Tryd.ntmps50
  go_wp2_with fail
  exact bodyPost_ret (v := .agg #[.int .i64 (-1), .bool false, .bool false, .nilFunc]) (by simp [results, Tryd.results50, go_sem]) rfl ⟨rfl, (Below.refl _ _).alloc (Nat.le_refl _) _⟩
theorem find_any (s : ByteArray) (w : World) : Calls Tryd.prog 50 #[.string s] w (FindPost (fnOf s) w) := by
  unfold fnOf
  cases h0 : (s.toList == [102, 95, 99, 111, 110, 115]) with
  | true => rw [if_pos rfl]; exact find_0 s w h0
  | false =>
  rw [if_neg (by decide)]
  cases h1 : (s.toList == [102, 95, 97, 112, 112, 101, 110, 100]) with
  | true => rw [if_pos rfl]; exact find_1 s w h0 h1
  | false =>
  rw [if_neg (by decide)]
  cases h2 : (s.toList == [102, 95, 99, 111, 110, 99, 97, 116]) with
  | true => rw [if_pos rfl]; exact find_2 s w h0 h1 h2
  | false =>
  rw [if_neg (by decide)]
  cases h3 : (s.toList == [102, 95, 109, 101, 109, 98, 101, 114]) with
  | true => rw [if_pos rfl]; exact find_3 s w h0 h1 h2 h3
  | false =>
  rw [if_neg (by decide)]
  cases h4 : (s.toList == [102, 95, 115, 105, 122, 101]) with
  | true => rw [if_pos rfl]; exact find_4 s w h0 h1 h2 h3 h4
  | false =>
  rw [if_neg (by decide)]
  cases h5 : (s.toList == [102, 95, 102, 105, 114, 115, 116]) with
  | true => rw [if_pos rfl]; exact find_5 s w h0 h1 h2 h3 h4 h5
  | false =>
  rw [if_neg (by decide)]
  cases h6 : (s.toList == [102, 95, 108, 97, 115, 116]) with
  | true => rw [if_pos rfl]; exact find_6 s w h0 h1 h2 h3 h4 h5 h6
  | false =>
  rw [if_neg (by decide)]
  cases h7 : (s.toList == [102, 95, 114, 101, 115, 116]) with
  | true => rw [if_pos rfl]; exact find_7 s w h0 h1 h2 h3 h4 h5 h6 h7
  | false =>
  rw [if_neg (by decide)]
  cases h8 : (s.toList == [102, 95, 114, 101, 118, 101, 114, 115, 101]) with
  | true => rw [if_pos rfl]; exact find_8 s w h0 h1 h2 h3 h4 h5 h6 h7 h8
  | false =>
  rw [if_neg (by decide)]
  exact find_9 s w h0 h1 h2 h3 h4 h5 h6 h7 h8
theorem fnArity_range (k : Nat) : fnArity k = 2 ∨ fnArity k = 1 ∨ fnArity k = -1 := by
  unfold fnArity; split <;> simp
theorem field_arity (a b c d : Value) (w : World) : Sem.run Tryd.prog (Instr.field 74 (.agg #[a, b, c, d]) 0) w = .ok a w := by
  kernel_rfl
set_option maxRecDepth 100000 in
set_option maxHeartbeats 1000000 in
theorem arity_any (s : ByteArray) (w : World) : Calls Tryd.prog 22 #[.string s] w fun e w' => e = .returned (.int .i64 (fnArity (fnOf s))) ∧ Below w.heap.size w w' := by
  go_enter Tryd.func22, Tryd.ntmps22
  go_wp2_with fail
  refine (find_any s w).mono ?_
  rintro e w1 ⟨rfl, hb⟩
  have hf := field_arity
  go_wp2_with fail
  go_ret
  exact ⟨rfl, hb⟩

end Go.Proofs.YtgkgnfafjbjbnaaDoor
