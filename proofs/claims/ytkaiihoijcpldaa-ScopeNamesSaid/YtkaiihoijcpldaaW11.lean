/-
  builtin's table of functions: what find and Arity tell of any name.
-/
import Derived.Test.YtkaiihoijcpldaaW01
import Derived.Test.YtkaiihoijcpldaaW10
import Derived.Test.YtkaiihoijcpldaaW08
import Derived.Test.YtkaiihoijcpldaaW04
import Derived.Test.YtkaiihoijcpldaaW02
import Derived.Laws.EntriesVeiled
namespace Go.Proofs.Ytkaiihoijcpldaa
open Go.RowKit

/-- The functions' names, by their numbers here. -/
def fname : Nat → List UInt8
  | 0 => [102, 95, 99, 111, 110, 115]
  | 1 => [102, 95, 97, 112, 112, 101, 110, 100]
  | 2 => [102, 95, 99, 111, 110, 99, 97, 116]
  | 3 => [102, 95, 109, 101, 109, 98, 101, 114]
  | 4 => [102, 95, 115, 105, 122, 101]
  | 5 => [102, 95, 102, 105, 114, 115, 116]
  | 6 => [102, 95, 108, 97, 115, 116]
  | 7 => [102, 95, 114, 101, 115, 116]
  | 8 => [102, 95, 114, 101, 118, 101, 114, 115, 101]
  | _ => []
/-- Which function a name is of; 9: of none. -/
def fnOf (s : ByteArray) : Nat :=
  if (s.toList == [102, 95, 99, 111, 110, 115]) = true then 0
  else if (s.toList == [102, 95, 97, 112, 112, 101, 110, 100]) = true then 1
  else if (s.toList == [102, 95, 99, 111, 110, 99, 97, 116]) = true then 2
  else if (s.toList == [102, 95, 109, 101, 109, 98, 101, 114]) = true then 3
  else if (s.toList == [102, 95, 115, 105, 122, 101]) = true then 4
  else if (s.toList == [102, 95, 102, 105, 114, 115, 116]) = true then 5
  else if (s.toList == [102, 95, 108, 97, 115, 116]) = true then 6
  else if (s.toList == [102, 95, 114, 101, 115, 116]) = true then 7
  else if (s.toList == [102, 95, 114, 101, 118, 101, 114, 115, 101]) = true then 8
  else 9
def fnArity : Nat → Int
  | 0 => 2
  | 1 => 2
  | 2 => 2
  | 3 => 2
  | 4 => 1
  | 5 => 1
  | 6 => 1
  | 7 => 1
  | 8 => 1
  | _ => -1
def fnList : Nat → Nat → Bool
  | 0, 0 => false | 0, 1 => true
  | 1, 0 => true | 1, 1 => false
  | 2, 0 => true | 2, 1 => true
  | 3, 0 => true | 3, 1 => false
  | 4, 0 => true | 4, 1 => false
  | 5, 0 => true | 5, 1 => false
  | 6, 0 => true | 6, 1 => false
  | 7, 0 => true | 7, 1 => false
  | 8, 0 => true | 8, 1 => false
  | _, _ => false
def fnDo : Nat → Value
  | 0 => .func (.func 82) #[] #[]
  | 1 => .func (.func 83) #[] #[]
  | 2 => .func (.func 84) #[] #[]
  | 3 => .func (.func 85) #[] #[]
  | 4 => .func (.func 86) #[] #[]
  | 5 => .func (.func 87) #[] #[]
  | 6 => .func (.func 88) #[] #[]
  | 7 => .func (.func 89) #[] #[]
  | 8 => .func (.func 90) #[] #[]
  | _ => .nilFunc
def FindPost (k : Nat) (w : World) (e : Ending) (w' : World) : Prop := e = .returned (.agg #[.int .i64 (fnArity k), .bool (fnList k 0), .bool (fnList k 1), fnDo k]) ∧ Below w.heap.size w w'
set_option maxRecDepth 100000 in
set_option maxHeartbeats 1000000 in
theorem find_0 (s : ByteArray) (w : World) (h0 : (s.toList == [102, 95, 99, 111, 110, 115]) = true) : Calls Try.prog 77 #[.string s] w (FindPost 0 w) := by
  go_enter Try.func77, Try.ntmps77
  go_wp2_with fail
  exact bodyPost_ret (v := .agg #[.int .i64 2, .bool false, .bool true, .func (.func 82) #[] #[]]) (by simp [results, Try.results77, go_sem]) rfl ⟨rfl, (Below.refl _ _).alloc (Nat.le_refl _) _⟩
set_option maxRecDepth 100000 in
set_option maxHeartbeats 1000000 in
theorem find_1 (s : ByteArray) (w : World) (h0 : (s.toList == [102, 95, 99, 111, 110, 115]) = false) (h1 : (s.toList == [102, 95, 97, 112, 112, 101, 110, 100]) = true) : Calls Try.prog 77 #[.string s] w (FindPost 1 w) := by
  go_enter Try.func77, Try.ntmps77
  go_wp2_with fail
  exact bodyPost_ret (v := .agg #[.int .i64 2, .bool true, .bool false, .func (.func 83) #[] #[]]) (by simp [results, Try.results77, go_sem]) rfl ⟨rfl, (Below.refl _ _).alloc (Nat.le_refl _) _⟩
set_option maxRecDepth 100000 in
set_option maxHeartbeats 1000000 in
theorem find_2 (s : ByteArray) (w : World) (h0 : (s.toList == [102, 95, 99, 111, 110, 115]) = false) (h1 : (s.toList == [102, 95, 97, 112, 112, 101, 110, 100]) = false) (h2 : (s.toList == [102, 95, 99, 111, 110, 99, 97, 116]) = true) : Calls Try.prog 77 #[.string s] w (FindPost 2 w) := by
  go_enter Try.func77, Try.ntmps77
  go_wp2_with fail
  exact bodyPost_ret (v := .agg #[.int .i64 2, .bool true, .bool true, .func (.func 84) #[] #[]]) (by simp [results, Try.results77, go_sem]) rfl ⟨rfl, (Below.refl _ _).alloc (Nat.le_refl _) _⟩
set_option maxRecDepth 100000 in
set_option maxHeartbeats 1000000 in
theorem find_3 (s : ByteArray) (w : World) (h0 : (s.toList == [102, 95, 99, 111, 110, 115]) = false) (h1 : (s.toList == [102, 95, 97, 112, 112, 101, 110, 100]) = false) (h2 : (s.toList == [102, 95, 99, 111, 110, 99, 97, 116]) = false) (h3 : (s.toList == [102, 95, 109, 101, 109, 98, 101, 114]) = true) : Calls Try.prog 77 #[.string s] w (FindPost 3 w) := by
  go_enter Try.func77, Try.ntmps77
  go_wp2_with fail
  exact bodyPost_ret (v := .agg #[.int .i64 2, .bool true, .bool false, .func (.func 85) #[] #[]]) (by simp [results, Try.results77, go_sem]) rfl ⟨rfl, (Below.refl _ _).alloc (Nat.le_refl _) _⟩
set_option maxRecDepth 100000 in
set_option maxHeartbeats 1000000 in
theorem find_4 (s : ByteArray) (w : World) (h0 : (s.toList == [102, 95, 99, 111, 110, 115]) = false) (h1 : (s.toList == [102, 95, 97, 112, 112, 101, 110, 100]) = false) (h2 : (s.toList == [102, 95, 99, 111, 110, 99, 97, 116]) = false) (h3 : (s.toList == [102, 95, 109, 101, 109, 98, 101, 114]) = false) (h4 : (s.toList == [102, 95, 115, 105, 122, 101]) = true) : Calls Try.prog 77 #[.string s] w (FindPost 4 w) := by
  go_enter Try.func77, Try.ntmps77
  go_wp2_with fail
  exact bodyPost_ret (v := .agg #[.int .i64 1, .bool true, .bool false, .func (.func 86) #[] #[]]) (by simp [results, Try.results77, go_sem]) rfl ⟨rfl, (Below.refl _ _).alloc (Nat.le_refl _) _⟩
set_option maxRecDepth 100000 in
set_option maxHeartbeats 1000000 in
theorem find_5 (s : ByteArray) (w : World) (h0 : (s.toList == [102, 95, 99, 111, 110, 115]) = false) (h1 : (s.toList == [102, 95, 97, 112, 112, 101, 110, 100]) = false) (h2 : (s.toList == [102, 95, 99, 111, 110, 99, 97, 116]) = false) (h3 : (s.toList == [102, 95, 109, 101, 109, 98, 101, 114]) = false) (h4 : (s.toList == [102, 95, 115, 105, 122, 101]) = false) (h5 : (s.toList == [102, 95, 102, 105, 114, 115, 116]) = true) : Calls Try.prog 77 #[.string s] w (FindPost 5 w) := by
  go_enter Try.func77, Try.ntmps77
  go_wp2_with fail
  exact bodyPost_ret (v := .agg #[.int .i64 1, .bool true, .bool false, .func (.func 87) #[] #[]]) (by simp [results, Try.results77, go_sem]) rfl ⟨rfl, (Below.refl _ _).alloc (Nat.le_refl _) _⟩
set_option maxRecDepth 100000 in
set_option maxHeartbeats 1000000 in
theorem find_6 (s : ByteArray) (w : World) (h0 : (s.toList == [102, 95, 99, 111, 110, 115]) = false) (h1 : (s.toList == [102, 95, 97, 112, 112, 101, 110, 100]) = false) (h2 : (s.toList == [102, 95, 99, 111, 110, 99, 97, 116]) = false) (h3 : (s.toList == [102, 95, 109, 101, 109, 98, 101, 114]) = false) (h4 : (s.toList == [102, 95, 115, 105, 122, 101]) = false) (h5 : (s.toList == [102, 95, 102, 105, 114, 115, 116]) = false) (h6 : (s.toList == [102, 95, 108, 97, 115, 116]) = true) : Calls Try.prog 77 #[.string s] w (FindPost 6 w) := by
  go_enter Try.func77, Try.ntmps77
  go_wp2_with fail
  exact bodyPost_ret (v := .agg #[.int .i64 1, .bool true, .bool false, .func (.func 88) #[] #[]]) (by simp [results, Try.results77, go_sem]) rfl ⟨rfl, (Below.refl _ _).alloc (Nat.le_refl _) _⟩
set_option maxRecDepth 100000 in
set_option maxHeartbeats 1000000 in
theorem find_7 (s : ByteArray) (w : World) (h0 : (s.toList == [102, 95, 99, 111, 110, 115]) = false) (h1 : (s.toList == [102, 95, 97, 112, 112, 101, 110, 100]) = false) (h2 : (s.toList == [102, 95, 99, 111, 110, 99, 97, 116]) = false) (h3 : (s.toList == [102, 95, 109, 101, 109, 98, 101, 114]) = false) (h4 : (s.toList == [102, 95, 115, 105, 122, 101]) = false) (h5 : (s.toList == [102, 95, 102, 105, 114, 115, 116]) = false) (h6 : (s.toList == [102, 95, 108, 97, 115, 116]) = false) (h7 : (s.toList == [102, 95, 114, 101, 115, 116]) = true) : Calls Try.prog 77 #[.string s] w (FindPost 7 w) := by
  go_enter Try.func77, Try.ntmps77
  go_wp2_with fail
  exact bodyPost_ret (v := .agg #[.int .i64 1, .bool true, .bool false, .func (.func 89) #[] #[]]) (by simp [results, Try.results77, go_sem]) rfl ⟨rfl, (Below.refl _ _).alloc (Nat.le_refl _) _⟩
set_option maxRecDepth 100000 in
set_option maxHeartbeats 1000000 in
theorem find_8 (s : ByteArray) (w : World) (h0 : (s.toList == [102, 95, 99, 111, 110, 115]) = false) (h1 : (s.toList == [102, 95, 97, 112, 112, 101, 110, 100]) = false) (h2 : (s.toList == [102, 95, 99, 111, 110, 99, 97, 116]) = false) (h3 : (s.toList == [102, 95, 109, 101, 109, 98, 101, 114]) = false) (h4 : (s.toList == [102, 95, 115, 105, 122, 101]) = false) (h5 : (s.toList == [102, 95, 102, 105, 114, 115, 116]) = false) (h6 : (s.toList == [102, 95, 108, 97, 115, 116]) = false) (h7 : (s.toList == [102, 95, 114, 101, 115, 116]) = false) (h8 : (s.toList == [102, 95, 114, 101, 118, 101, 114, 115, 101]) = true) : Calls Try.prog 77 #[.string s] w (FindPost 8 w) := by
  go_enter Try.func77, Try.ntmps77
  go_wp2_with fail
  exact bodyPost_ret (v := .agg #[.int .i64 1, .bool true, .bool false, .func (.func 90) #[] #[]]) (by simp [results, Try.results77, go_sem]) rfl ⟨rfl, (Below.refl _ _).alloc (Nat.le_refl _) _⟩
set_option maxRecDepth 100000 in
set_option maxHeartbeats 1000000 in
theorem find_9 (s : ByteArray) (w : World) (h0 : (s.toList == [102, 95, 99, 111, 110, 115]) = false) (h1 : (s.toList == [102, 95, 97, 112, 112, 101, 110, 100]) = false) (h2 : (s.toList == [102, 95, 99, 111, 110, 99, 97, 116]) = false) (h3 : (s.toList == [102, 95, 109, 101, 109, 98, 101, 114]) = false) (h4 : (s.toList == [102, 95, 115, 105, 122, 101]) = false) (h5 : (s.toList == [102, 95, 102, 105, 114, 115, 116]) = false) (h6 : (s.toList == [102, 95, 108, 97, 115, 116]) = false) (h7 : (s.toList == [102, 95, 114, 101, 115, 116]) = false) (h8 : (s.toList == [102, 95, 114, 101, 118, 101, 114, 115, 101]) = false) : Calls Try.prog 77 #[.string s] w (FindPost 9 w) := by
  go_enter Try.func77, Try.ntmps77
  go_wp2_with fail
  exact bodyPost_ret (v := .agg #[.int .i64 (-1), .bool false, .bool false, .nilFunc]) (by simp [results, Try.results77, go_sem]) rfl ⟨rfl, (Below.refl _ _).alloc (Nat.le_refl _) _⟩
theorem find_any (s : ByteArray) (w : World) : Calls Try.prog 77 #[.string s] w (FindPost (fnOf s) w) := by
  unfold fnOf
  cases h0 : (s.toList == [102, 95, 99, 111, 110, 115]) with
  | true => rw [if_pos rfl]; exact find_0 s w h0
  | false =>
  rw [if_neg (by decide)]
  cases h1 : (s.toList == [102, 95, 97, 112, 112, 101, 110, 100]) with
  | true => rw [if_pos rfl]; exact find_1 s w h0 h1
  | false =>
  rw [if_neg (by decide)]
  cases h2 : (s.toList == [102, 95, 99, 111, 110, 99, 97, 116]) with
  | true => rw [if_pos rfl]; exact find_2 s w h0 h1 h2
  | false =>
  rw [if_neg (by decide)]
  cases h3 : (s.toList == [102, 95, 109, 101, 109, 98, 101, 114]) with
  | true => rw [if_pos rfl]; exact find_3 s w h0 h1 h2 h3
  | false =>
  rw [if_neg (by decide)]
  cases h4 : (s.toList == [102, 95, 115, 105, 122, 101]) with
  | true => rw [if_pos rfl]; exact find_4 s w h0 h1 h2 h3 h4
  | false =>
  rw [if_neg (by decide)]
  cases h5 : (s.toList == [102, 95, 102, 105, 114, 115, 116]) with
  | true => rw [if_pos rfl]; exact find_5 s w h0 h1 h2 h3 h4 h5
  | false =>
  rw [if_neg (by decide)]
  cases h6 : (s.toList == [102, 95, 108, 97, 115, 116]) with
  | true => rw [if_pos rfl]; exact find_6 s w h0 h1 h2 h3 h4 h5 h6
  | false =>
  rw [if_neg (by decide)]
  cases h7 : (s.toList == [102, 95, 114, 101, 115, 116]) with
  | true => rw [if_pos rfl]; exact find_7 s w h0 h1 h2 h3 h4 h5 h6 h7
  | false =>
  rw [if_neg (by decide)]
  cases h8 : (s.toList == [102, 95, 114, 101, 118, 101, 114, 115, 101]) with
  | true => rw [if_pos rfl]; exact find_8 s w h0 h1 h2 h3 h4 h5 h6 h7 h8
  | false =>
  rw [if_neg (by decide)]
  exact find_9 s w h0 h1 h2 h3 h4 h5 h6 h7 h8
theorem fnArity_range (k : Nat) : fnArity k = 2 ∨ fnArity k = 1 ∨ fnArity k = -1 := by
  unfold fnArity; split <;> simp
theorem field_arity (a b c d : Value) (w : World) : Sem.run Try.prog (Instr.field 114 (.agg #[a, b, c, d]) 0) w = .ok a w := by
  kernel_rfl
set_option maxRecDepth 100000 in
set_option maxHeartbeats 1000000 in
theorem arity_any (s : ByteArray) (w : World) : Calls Try.prog 70 #[.string s] w fun e w' => e = .returned (.int .i64 (fnArity (fnOf s))) ∧ Below w.heap.size w w' := by
  go_enter Try.func70, Try.ntmps70
  go_wp2_with fail
  refine (find_any s w).mono ?_
  rintro e w1 ⟨rfl, hb⟩
  have hf := field_arity
  go_wp2_with fail
  go_ret
  exact ⟨rfl, hb⟩

end Go.Proofs.Ytkaiihoijcpldaa

/-
  When terms, literals, rules, facts and programs may be, as plain answers about their trees.
-/
namespace Go.Proofs.Ytkaiihoijcpldaa
open Go.RowKit

/-- Nothing in a value. -/
def noneB (x : V) : Bool := x.kind == 0 && (x.num == 0 && (x.text.toList.isEmpty && x.list.isEmpty))
/-- A function's name. -/
def fnB (s : ByteArray) : Bool := decide (0 ≤ fnArity (fnOf s))
/-- 'materialize'. -/
def declB (s : ByteArray) : Bool := s.toList == [109, 97, 116, 101, 114, 105, 97, 108, 105, 122, 101]
def relB (s : ByteArray) : Bool := nameB s && (!fnB s && !declB s)
def valB (x : V) : Bool := rightV 4 x && !(x.kind == 3 && fnB x.text)
/-- '+', '-' or '*'. -/
def opB (s : ByteArray) : Bool := s.toList == [43] || (s.toList == [45] || s.toList == [42])
/-- '==', '!=', '<', '<=', '>' or '>='. -/
def cmpB (s : ByteArray) : Bool := s.toList == [61, 61] || (s.toList == [33, 61] || (s.toList == [60] || (s.toList == [60, 61] || (s.toList == [62] || s.toList == [62, 61]))))
/-- So many elements, each right. -/
def listB {α : Type} (least most : Int) (R : α → Bool) (l : List α) : Bool := decide (least ≤ (l.length : Int)) && (decide ((l.length : Int) ≤ most) && l.all R)

/-- Is a term right, so deep at most? -/
def rightM : Nat → Tm → Bool
  | 0, _ => false
  | d + 1, .mk k s x l =>
    if k = 1 then varB s && (noneB x && l.isEmpty)
    else if k = 2 then s.toList.isEmpty && (valB x && l.isEmpty)
    else if k = 3 then noneB x && listB (fnArity (fnOf s)) (fnArity (fnOf s)) (rightM d) l
    else if k = 4 then opB s && (noneB x && listB 2 2 (rightM d) l)
    else false
/-- May it tell at which node a tuple is? -/
def placeB (t : Tm) : Bool := t.kind == 1 || (t.kind == 2 && t.val.kind == 3)
def headB (l : List Tm) : Bool := match l with
  | [] => false
  | t :: _ => placeB t
def atomB (s : ByteArray) (l : List Tm) : Bool := relB s && (listB 1 8 (rightM 8) l && headB l)
/-- 'min', 'max' or 'count'. -/
def aggNameB (s : ByteArray) : Bool := s.toList == [109, 105, 110] || (s.toList == [109, 97, 120] || s.toList == [99, 111, 117, 110, 116])
def kindAt (l : List Tm) (i : Int) : Int := match l[i.toNat]? with
  | some t => t.kind
  | none => 0
def aggB (r : Ru) : Bool :=
  if r.agg.toList.isEmpty = true then r.at' == 0
  else aggNameB r.agg && (decide (1 ≤ r.at') && (decide (r.at' < (r.args.length : Int)) && kindAt r.args r.at' == 1))
def liB (x : Li) : Bool :=
  if x.kind = 1 then atomB x.name x.args
  else if x.kind = 2 then atomB x.name x.args
  else if x.kind = 3 then cmpB x.name && listB 2 2 (rightM 8) x.args
  else if x.kind = 4 then varB x.name && listB 1 1 (rightM 8) x.args
  else false
def ruB (r : Ru) : Bool := relB r.label && (atomB r.head r.args && (aggB r && listB 1 8 liB r.body))
def deB (d : De) : Bool := relB d.name && (decide (1 ≤ d.arity) && decide (d.arity ≤ 8))
def headV (l : List V) : Bool := match l with
  | [] => false
  | x :: _ => x.kind == 3
def faB (t : Fa) : Bool := relB t.name && (listB 1 8 (rightV 4) t.args && headV t.args)
def prB (p : Pr) : Bool := listB 0 64 deB p.decls && (listB 0 64 faB p.facts && listB 0 64 ruB p.rules)

theorem listB_few {α : Type} {least most : Int} {R : α → Bool} {l : List α} (h : (l.length : Int) < least) : listB least most R l = false := by
  unfold listB; rw [decide_eq_false (by omega)]; rfl
theorem listB_many {α : Type} {least most : Int} {R : α → Bool} {l : List α} (h : most < (l.length : Int)) : listB least most R l = false := by
  unfold listB; rw [decide_eq_false (p := (l.length : Int) ≤ most) (by omega)]; simp
theorem listB_some {α : Type} {least most : Int} {R : α → Bool} {l : List α} (h1 : least ≤ (l.length : Int)) (h2 : (l.length : Int) ≤ most) : listB least most R l = l.all R := by
  unfold listB; rw [decide_eq_true h1, decide_eq_true h2]; rfl
theorem listB_bounds {α : Type} {least most : Int} {R : α → Bool} {l : List α} (h : listB least most R l = true) : least ≤ (l.length : Int) ∧ (l.length : Int) ≤ most ∧ ∀ x ∈ l, R x = true := by
  unfold listB at h
  simp only [Bool.and_eq_true, decide_eq_true_eq, List.all_eq_true] at h
  exact ⟨h.1, h.2.1, h.2.2⟩
theorem all_none {α : Type} {R : α → Bool} {l : List α} {k : Nat} (hk : k < l.length) (h : R l[k] = false) : l.all R = false := by
  cases e : l.all R with
  | false => rfl
  | true =>
    rw [List.all_eq_true] at e
    rw [e _ (List.getElem_mem hk)] at h
    cases h
theorem rightM_zero (t : Tm) : rightM 0 t = false := by rw [rightM]
theorem rightM_succ (d : Nat) (k : Int) (s : ByteArray) (x : V) (l : List Tm) : rightM (d + 1) (.mk k s x l) =
    if k = 1 then varB s && (noneB x && l.isEmpty)
    else if k = 2 then s.toList.isEmpty && (valB x && l.isEmpty)
    else if k = 3 then noneB x && listB (fnArity (fnOf s)) (fnArity (fnOf s)) (rightM d) l
    else if k = 4 then opB s && (noneB x && listB 2 2 (rightM d) l)
    else false := by rw [rightM]

end Go.Proofs.Ytkaiihoijcpldaa

/-
  Layer 6's raw programs are right.
-/
namespace Go.Proofs.Ytkaiihoijcpldaa
open Go.RowKit

theorem listB_of {α : Type} {least most : Int} {R : α → Bool} {l : List α} (h1 : least ≤ (l.length : Int)) (h2 : (l.length : Int) ≤ most) (h : ∀ x ∈ l, R x = true) : listB least most R l = true := by
  rw [listB_some h1 h2, List.all_eq_true]; exact h
theorem vName_var {i : Nat} (h : i < 6) : varB (vName i) = true := by
  match i, h with
  | 0, _ => decide
  | 1, _ => decide
  | 2, _ => decide
  | 3, _ => decide
  | 4, _ => decide
  | 5, _ => decide
theorem pick_nat (c : Int) {n : Int} (hn : 1 ≤ n) : ∃ i : Nat, pickZ c n = (i : Int) ∧ (pickZ c n).toNat = i ∧ (i : Int) < n := by
  have h := pickZ_bd c n hn
  obtain ⟨i, hi⟩ := Int.eq_ofNat_of_zero_le h.1
  exact ⟨i, hi, by rw [hi]; simp, by omega⟩
theorem noneZ : noneB zV = true := by simp [noneB, zV, V.kind, V.num, V.text, V.list, Lib.toList_data]
theorem right_v (d : Nat) (c : Int) : rightM (d + 1) (vZ c) = true := by
  obtain ⟨i, hi, hn, hb⟩ := pick_nat c (n := 6) (by omega)
  rw [vZ, hn, vTm, rightM, if_pos rfl, vName_var (by omega), noneZ]
  rfl
theorem right_num (d : Nat) {n : Int} (h0 : 0 ≤ n) (h : n ≤ 10) : rightM (d + 1) (numZ n) = true := by
  rw [numZ, rightM, if_neg (by decide), if_pos rfl]
  simp [valB, rightV, baseB, V.kind, V.text, Lib.toList_data]
  omega
theorem adr_name {i : Nat} (h : i < 4) : nameB (adrName i) = true ∧ fnB (adrName i) = false := by
  match i, h with
  | 0, _ => exact ⟨by decide, by simp [fnB, fnOf, fnArity, adrName, Lib.toList_data]⟩
  | 1, _ => exact ⟨by decide, by simp [fnB, fnOf, fnArity, adrName, Lib.toList_data]⟩
  | 2, _ => exact ⟨by decide, by simp [fnB, fnOf, fnArity, adrName, Lib.toList_data]⟩
  | 3, _ => exact ⟨by decide, by simp [fnB, fnOf, fnArity, adrName, Lib.toList_data]⟩
theorem right_adr (d i : Nat) (h : i < 4) : rightM (d + 1) (adrZ i) = true := by
  rw [adrZ, rightM, if_neg (by decide), if_pos rfl]
  obtain ⟨h1, h2⟩ := adr_name h
  simp [valB, rightV, baseB, V.kind, V.text, Lib.toList_data, h1, h2]
theorem right_sum (d : Nat) {a b : Tm} {s : ByteArray} (ha : rightM d a = true) (hb : rightM d b = true) (hs : opB s = true) : rightM (d + 1) (sumZ a b s) = true := by
  rw [sumZ, rightM, if_neg (by decide), if_neg (by decide), if_neg (by decide), if_pos rfl, hs, listB_of (by simp) (by simp) (fun x hx => by
    rcases List.mem_cons.1 hx with rfl | hx
    · exact ha
    · rw [List.mem_singleton.1 hx]; exact hb), noneZ]
  rfl
theorem right_arg (c : Int) : rightM 8 (argZ c) = true := by
  rw [argZ]
  split
  · have := pickZ_bd (c.tdiv 12) 4 (by omega)
    exact right_num 7 this.1 (by omega)
  · split
    · obtain ⟨i, hi, hn, hb⟩ := pick_nat (c.tdiv 12) (n := 3) (by omega)
      rw [hn]; exact right_adr 7 i (by omega)
    · split
      · exact right_sum 7 (right_v 6 _) (right_num 6 (by decide) (by decide)) (by simp [opB, Lib.toList_data])
      · exact right_v 7 c
theorem rel6 {i : Nat} (h : i < 6) : relB (decl6 i).name = true := by
  match i, h with
  | 0, _ =>
    have h1 : nameB (decl6 0).name = true := by decide
    rw [relB, h1]
    simp [fnB, fnOf, fnArity, declB, decl6, decls6, Lib.toList_data]
  | 1, _ =>
    have h1 : nameB (decl6 1).name = true := by decide
    rw [relB, h1]
    simp [fnB, fnOf, fnArity, declB, decl6, decls6, Lib.toList_data]
  | 2, _ =>
    have h1 : nameB (decl6 2).name = true := by decide
    rw [relB, h1]
    simp [fnB, fnOf, fnArity, declB, decl6, decls6, Lib.toList_data]
  | 3, _ =>
    have h1 : nameB (decl6 3).name = true := by decide
    rw [relB, h1]
    simp [fnB, fnOf, fnArity, declB, decl6, decls6, Lib.toList_data]
  | 4, _ =>
    have h1 : nameB (decl6 4).name = true := by decide
    rw [relB, h1]
    simp [fnB, fnOf, fnArity, declB, decl6, decls6, Lib.toList_data]
  | 5, _ =>
    have h1 : nameB (decl6 5).name = true := by decide
    rw [relB, h1]
    simp [fnB, fnOf, fnArity, declB, decl6, decls6, Lib.toList_data]
theorem rel_of (x : Rw) : relB (declOf x).name = true := by
  obtain ⟨i, hi, hn, hb⟩ := pick_nat x.name (n := 6) (by omega)
  rw [declOf, hn]; exact rel6 (by omega)
theorem right_atom (x : Rw) : atomB (declOf x).name (atomZ x) = true := by
  have hl := atomZ_len x
  have hh : headB (atomZ x) = true := by rw [atomZ, atomTo, headB]; rfl
  rw [atomB, rel_of, hh, listB_of (by rw [atomZ, atomTo, List.length_cons]; omega) (by omega) (fun y hy => by
    rw [atomZ, atomTo] at hy
    rcases List.mem_cons.1 hy with rfl | hy
    · exact right_v 7 _
    · obtain ⟨i, -, rfl⟩ := List.mem_map.1 hy
      exact right_arg _)]
  rfl
theorem right_cmp {j : Nat} (h : j < 6) : cmpB (cmp6 j) = true := by
  match j, h with
  | 0, _ => simp [cmpB, cmp6, Lib.toList_data]
  | 1, _ => simp [cmpB, cmp6, Lib.toList_data]
  | 2, _ => simp [cmpB, cmp6, Lib.toList_data]
  | 3, _ => simp [cmpB, cmp6, Lib.toList_data]
  | 4, _ => simp [cmpB, cmp6, Lib.toList_data]
  | 5, _ => simp [cmpB, cmp6, Lib.toList_data]
theorem right_lit (x : Rw) : liB (litZ x) = true := by
  rw [litZ]
  split
  · rw [liB, if_pos rfl]; exact right_atom x
  · split
    · show atomB _ _ = true; exact right_atom x
    · split
      · obtain ⟨j, hj, hn, hb⟩ := pick_nat x.name (n := 6) (by omega)
        have h4 := pickZ_bd x.n2 4 (by omega)
        show (cmpB (cmp6 (pickZ x.name 6).toNat) && listB 2 2 (rightM 8) _) = true
        rw [hn, right_cmp (by omega), listB_of (by simp) (by simp) (fun y hy => by
          rcases List.mem_cons.1 hy with rfl | hy
          · exact right_v 7 _
          · rw [List.mem_singleton.1 hy]
            split
            · exact right_num 7 h4.1 (by omega)
            · exact right_v 7 _)]
        rfl
      · obtain ⟨i, hi, hn, hb⟩ := pick_nat x.n0 (n := 6) (by omega)
        show (varB (vName (pickZ x.n0 6).toNat) && listB 1 1 (rightM 8) _) = true
        rw [hn, vName_var (by omega), listB_of (by simp) (by simp) (fun y hy => by
          rw [List.mem_singleton.1 hy]
          refine right_sum 7 (right_v 6 _) ?_ ?_
          · split
            · exact right_num 6 (by decide) (by decide)
            · exact right_v 6 _
          · split
            · simp [opB, Lib.toList_data]
            · simp [opB, Lib.toList_data])]
        rfl
theorem right_label (n : Int) : relB (labelZ n) = true := by
  obtain ⟨r, hr, hn, hb⟩ := pick_nat n (n := 26) (by omega)
  have h1 : ∀ r : Nat, r < 26 → nameB ⟨#[114, UInt8.ofNat (97 + r)]⟩ = true := by decide
  rw [labelZ, hn, relB, h1 r (by omega)]
  simp [fnB, fnOf, fnArity, declB, Lib.toList_data]
theorem right_agg {g : Nat} (h : g < 3) : (agg6 g).toList.isEmpty = false ∧ aggNameB (agg6 g) = true := by
  match g, h with
  | 0, _ => simp [agg6, aggNameB, Lib.toList_data]
  | 1, _ => simp [agg6, aggNameB, Lib.toList_data]
  | 2, _ => simp [agg6, aggNameB, Lib.toList_data]
theorem right_body (l : List Rw) : listB 1 8 liB (bodyZ l) = true := by
  rw [bodyZ_eq]
  have h5 := bodyTo_len l 5
  split
  · exact listB_of (by simp) (by simp) (fun y hy => by rw [List.mem_singleton.1 hy]; exact right_lit _)
  · rename_i h
    have : 0 < (bodyTo l 5).length := List.length_pos_iff.2 h
    exact listB_of (by omega) (by omega) (fun y hy => by
      rw [bodyTo] at hy
      obtain ⟨x, -, rfl⟩ := List.mem_map.1 hy
      exact right_lit _)
theorem right_rule (l : List Rw) (n : Int) : ruB (ruleZ l n) = true := by
  rw [ruleZ]
  split
  · rename_i h
    rw [aggOn] at h
    simp only [Bool.and_eq_true, decide_eq_true_eq, beq_iff_eq] at h
    obtain ⟨-, h1, h2⟩ := h
    obtain ⟨g, hg, hn, hb⟩ := pick_nat ((headRw l).kind.tdiv 5) (n := 3) (by omega)
    obtain ⟨a1, a2⟩ := right_agg (show g < 3 by omega)
    have hk : kindAt (atomZ (headRw l)) 1 = 1 := by
      rw [List.getD, List.getElem?_eq_getElem h1] at h2
      rw [kindAt, show (1 : Int).toNat = 1 from rfl, List.getElem?_eq_getElem h1]; exact h2
    rw [ruB, hn, right_label, right_atom, right_body, aggB, a1, if_neg (by decide), a2, hk, decide_eq_true (show (1 : Int) < ((atomZ (headRw l)).length : Int) by omega)]
    rfl
  · rw [ruB, right_label, right_atom, right_body, aggB, if_pos (by simp [Lib.toList_data])]
    rfl
theorem right_factArg (x : Rw) (i : Nat) : rightV 4 (factArg x i) = true := by
  rw [factArg]
  split
  · obtain ⟨g, hg, hn, hb⟩ := pick_nat ((numOf x i).tdiv 2) (n := 4) (by omega)
    obtain ⟨h1, h2⟩ := adr_name (show g < 4 by omega)
    rw [hn]
    simp [rightV, baseB, h1]
  · have := pickZ_bd ((numOf x i).tdiv 2) 5 (by omega)
    simp [rightV, baseB, Lib.toList_data]
    omega
theorem declOf_nat (x : Rw) : ∃ m, (declOf x).arity.toNat = m + 1 ∧ m ≤ 2 := by
  have h := declOf_ok x
  exact ⟨(declOf x).arity.toNat - 1, by omega, by omega⟩
theorem right_fact (x : Rw) : faB (factZ x) = true := by
  obtain ⟨m, hm, hm2⟩ := declOf_nat x
  have hh : headV (factZ x).args = true := by
    rw [factZ, hm, List.range_succ_eq_map]
    simp [headV, factArg, V.kind]
  rw [faB, hh, factZ, rel_of, hm, listB_of (by simp; omega) (by simp; omega) (fun y hy => by
    obtain ⟨i, -, rfl⟩ := List.mem_map.1 hy
    exact right_factArg x i)]
  rfl
theorem right_prog (rules : List (List Rw)) (facts : List Rw) : prB (progZ rules facts) = true := by
  have h1 : listB 0 64 deB decls6 = true := listB_of (by decide) (by decide) (fun y hy => by
    obtain ⟨i, hi, rfl⟩ := List.getElem_of_mem hy
    have hi6 : i < 6 := hi
    show deB (decls6[i]'hi6) = true
    rw [← decl6_get hi6, deB, rel6 hi6]
    have := decl6_ok hi6
    simp; omega)
  rw [prB, progZ, h1, listB_of (by omega) (by rw [List.length_map, List.length_take]; omega) (fun y hy => by
    obtain ⟨x, -, rfl⟩ := List.mem_map.1 hy
    exact right_fact x), listB_of (by omega) (by rw [rulesTo, List.length_map, List.length_range]; omega) (fun y hy => by
    rw [rulesTo] at hy
    obtain ⟨i, -, rfl⟩ := List.mem_map.1 hy
    exact right_rule _ _)]
  rfl

end Go.Proofs.Ytkaiihoijcpldaa

/-
  printer's rightList, at each type and with each question that it is handed: how many there are, and whether each is right.
-/
namespace Go.Proofs.Ytkaiihoijcpldaa
open Go.RowKit

set_option maxRecDepth 100000 in
set_option maxHeartbeats 1000000 in
theorem rl_terms (l : List Tm) (least most : Int) (R : Tm → Bool) (S : Nat → Prop) (w : World) (a : Value) (hS : ∀ k, S k → k < w.heap.size) (ha : RepMs S w l a)
    (tells : ∀ (wr : World), Below w.heap.size w wr → ∀ x ∈ l, ∀ (fa : Option Addr) (fc : Nat) (ga : Option Addr) (gc : Nat), RepM S wr x (.int .i64 x.kind) (.string x.name) (.int .i64 x.val.kind) (.int .i64 x.val.num) (.string x.val.text) (.slice fa x.val.list.length fc) (.slice ga x.args.length gc) → Calls Try.prog 64 #[.agg #[.int .i64 x.kind, .string x.name, .int .i64 x.val.kind, .int .i64 x.val.num, .string x.val.text, .slice fa x.val.list.length fc, .slice ga x.args.length gc]] wr fun e w' => e = .returned (.bool (R x)) ∧ Below wr.heap.size wr w') :
    Calls Try.prog 63 #[a, .int .i64 least, .int .i64 most, .func (.func 64) #[] #[]] w fun e w' => e = .returned (.bool (listB least most R l)) ∧ Below w.heap.size w w' := by
  have HA := Lib.hid ha; have HT := Lib.hid tells
  obtain ⟨aa, cap, rfl⟩ := SlG.form ha
  have hlen : l.length * 104 ≤ 140737488355328 := SlG.bytes ha
  clear ha tells
  by_cases h1 : (l.length : Int) < least
  · have HF := Lib.hid (listB_few (most := most) (R := R) h1)
    have h1' : decide ((l.length : Int) < least) = true := by simpa using h1
    go_enter Try.func63, Try.ntmps63
    go_wp2_with fail
    go_ret
    exact ⟨ret_bool HF.out.symm, Below.refl _ _⟩
  have h1' : decide ((l.length : Int) < least) = false := by simpa using h1
  by_cases h2 : most < (l.length : Int)
  · have HF := Lib.hid (listB_many (least := least) (R := R) h2)
    have h2' : decide (most < (l.length : Int)) = true := by simpa using h2
    go_enter Try.func63, Try.ntmps63
    go_wp2_with fail
    go_ret
    exact ⟨ret_bool HF.out.symm, Below.refl _ _⟩
  have h2' : decide (most < (l.length : Int)) = false := by simpa using h2
  have HL := Lib.hid (listB_some (R := R) (show least ≤ (l.length : Int) by omega) (show (l.length : Int) ≤ most by omega))
  clear h1 h2
  go_enter Try.func63, Try.ntmps63
  go_wp2_with fail
  go_loopw [23] (fun i wr => ∃ k : Nat, k ≤ l.length ∧ i = .int .i64 k ∧ Hid (l.all R = (l.drop k).all R) ∧ Below w.heap.size w wr) (fun i _ => l.length - (intOf i).toNat)
  case atStart => exact ⟨0, Nat.zero_le _, rfl, rfl, Below.refl _ _⟩
  case round =>
    obtain ⟨k, hk, rfl, hrec, hbel⟩ := hrel
    have HB := Lib.hid hbel
    clear h1' h2'
    by_cases hl : k < l.length
    · have hA := RepMs.on (fun _ h => h) (fun j hj => hbel.block j (hS j hj)) HA.out
      obtain ⟨-, -, b, o, fa, fc, ga, gc, rfl, -, g0, g1, g2, g3, g4, g5, g6, g⟩ := RepMs.at hA k hl
      have G := Lib.hid g
      have HM := Lib.hid (show l[k] ∈ l from List.getElem_mem hl)
      have HD := Lib.hid (List.drop_eq_getElem_cons hl)
      clear hA g
      generalize l[k] = z at *
      have hba := below_alloc wr (.cells #[.int .i64 z.kind, .string z.name, .int .i64 z.val.kind, .int .i64 z.val.num, .string z.val.text, .slice fa z.val.list.length fc, .slice ga z.args.length gc] 48)
      have HZ := Lib.hid (RepM.on (fun _ h => h) (fun j hj => hba.block j (Nat.lt_of_lt_of_le (hS j hj) hbel.size)) z G.out)
      have HBA := Lib.hid (Below.step hbel hba)
      clear hbel hba
      have hen : ∀ args w, Sem.run Try.prog (callFunc 64 args) w = .ok (.enter 64 args) w := fun args w => by kernel_rfl
      go_wp2_with fail
      refine (HT.out _ HBA.out z HM.out fa fc ga gc HZ.out).mono ?_
      rintro e w3 ⟨rfl, hb3⟩
      have HB3 := Lib.hid (Below.step HBA.out hb3)
      clear hb3
      cases hc : R z with
      | true =>
        have HF : Hid (l.all R = (l.drop (k + 1)).all R) := by show _ = _; rw [hrec.out, HD.out, List.all_cons, hc, Bool.true_and]
        clear hc
        go_wp2_with fail
        go_roundw
        case rel => exact ⟨k + 1, by omega, by go_num, HF, HB3.out⟩
        case measure => simp [intOf]; omega
      | false =>
        have HF : Hid (listB least most R l = false) := by show _ = _; rw [HL.out, hrec.out, HD.out, List.all_cons, hc, Bool.false_and]
        clear hc
        go_wp2_with fail
        go_ret
        exact ⟨ret_bool HF.out.symm, HB3.out⟩
    · have HF : Hid (listB least most R l = true) := by show _ = _; rw [HL.out, hrec.out, List.drop_of_length_le (by omega)]; rfl
      go_wp2_with fail
      go_ret
      exact ⟨ret_bool HF.out.symm, HB.out⟩

set_option maxRecDepth 100000 in
set_option maxHeartbeats 1000000 in
theorem rl_parts (l : List Tm) (least most : Int) (R : Tm → Bool) (q : Value) (S : Nat → Prop) (w : World) (a : Value) (hS : ∀ k, S k → k < w.heap.size) (ha : RepMs S w l a)
    (tells : ∀ (wr : World), Below w.heap.size w wr → ∀ x ∈ l, ∀ (fa : Option Addr) (fc : Nat) (ga : Option Addr) (gc : Nat), RepM S wr x (.int .i64 x.kind) (.string x.name) (.int .i64 x.val.kind) (.int .i64 x.val.num) (.string x.val.text) (.slice fa x.val.list.length fc) (.slice ga x.args.length gc) → Calls Try.prog 91 #[.agg #[.int .i64 x.kind, .string x.name, .int .i64 x.val.kind, .int .i64 x.val.num, .string x.val.text, .slice fa x.val.list.length fc, .slice ga x.args.length gc], q] wr fun e w' => e = .returned (.bool (R x)) ∧ Below wr.heap.size wr w') :
    Calls Try.prog 63 #[a, .int .i64 least, .int .i64 most, .func (.func 91) #[] #[q]] w fun e w' => e = .returned (.bool (listB least most R l)) ∧ Below w.heap.size w w' := by
  have HA := Lib.hid ha; have HT := Lib.hid tells
  obtain ⟨aa, cap, rfl⟩ := SlG.form ha
  have hlen : l.length * 104 ≤ 140737488355328 := SlG.bytes ha
  clear ha tells
  by_cases h1 : (l.length : Int) < least
  · have HF := Lib.hid (listB_few (most := most) (R := R) h1)
    have h1' : decide ((l.length : Int) < least) = true := by simpa using h1
    go_enter Try.func63, Try.ntmps63
    go_wp2_with fail
    go_ret
    exact ⟨ret_bool HF.out.symm, Below.refl _ _⟩
  have h1' : decide ((l.length : Int) < least) = false := by simpa using h1
  by_cases h2 : most < (l.length : Int)
  · have HF := Lib.hid (listB_many (least := least) (R := R) h2)
    have h2' : decide (most < (l.length : Int)) = true := by simpa using h2
    go_enter Try.func63, Try.ntmps63
    go_wp2_with fail
    go_ret
    exact ⟨ret_bool HF.out.symm, Below.refl _ _⟩
  have h2' : decide (most < (l.length : Int)) = false := by simpa using h2
  have HL := Lib.hid (listB_some (R := R) (show least ≤ (l.length : Int) by omega) (show (l.length : Int) ≤ most by omega))
  clear h1 h2
  go_enter Try.func63, Try.ntmps63
  go_wp2_with fail
  go_loopw [23] (fun i wr => ∃ k : Nat, k ≤ l.length ∧ i = .int .i64 k ∧ Hid (l.all R = (l.drop k).all R) ∧ Below w.heap.size w wr) (fun i _ => l.length - (intOf i).toNat)
  case atStart => exact ⟨0, Nat.zero_le _, rfl, rfl, Below.refl _ _⟩
  case round =>
    obtain ⟨k, hk, rfl, hrec, hbel⟩ := hrel
    have HB := Lib.hid hbel
    clear h1' h2'
    by_cases hl : k < l.length
    · have hA := RepMs.on (fun _ h => h) (fun j hj => hbel.block j (hS j hj)) HA.out
      obtain ⟨-, -, b, o, fa, fc, ga, gc, rfl, -, g0, g1, g2, g3, g4, g5, g6, g⟩ := RepMs.at hA k hl
      have G := Lib.hid g
      have HM := Lib.hid (show l[k] ∈ l from List.getElem_mem hl)
      have HD := Lib.hid (List.drop_eq_getElem_cons hl)
      clear hA g
      generalize l[k] = z at *
      have hba := below_alloc wr (.cells #[.int .i64 z.kind, .string z.name, .int .i64 z.val.kind, .int .i64 z.val.num, .string z.val.text, .slice fa z.val.list.length fc, .slice ga z.args.length gc] 48)
      have HZ := Lib.hid (RepM.on (fun _ h => h) (fun j hj => hba.block j (Nat.lt_of_lt_of_le (hS j hj) hbel.size)) z G.out)
      have HBA := Lib.hid (Below.step hbel hba)
      clear hbel hba
      have hen : ∀ args w, Sem.run Try.prog (callFunc 91 args) w = .ok (.enter 91 args) w := fun args w => by kernel_rfl
      go_wp2_with fail
      refine (HT.out _ HBA.out z HM.out fa fc ga gc HZ.out).mono ?_
      rintro e w3 ⟨rfl, hb3⟩
      have HB3 := Lib.hid (Below.step HBA.out hb3)
      clear hb3
      cases hc : R z with
      | true =>
        have HF : Hid (l.all R = (l.drop (k + 1)).all R) := by show _ = _; rw [hrec.out, HD.out, List.all_cons, hc, Bool.true_and]
        clear hc
        go_wp2_with fail
        go_roundw
        case rel => exact ⟨k + 1, by omega, by go_num, HF, HB3.out⟩
        case measure => simp [intOf]; omega
      | false =>
        have HF : Hid (listB least most R l = false) := by show _ = _; rw [HL.out, hrec.out, HD.out, List.all_cons, hc, Bool.false_and]
        clear hc
        go_wp2_with fail
        go_ret
        exact ⟨ret_bool HF.out.symm, HB3.out⟩
    · have HF : Hid (listB least most R l = true) := by show _ = _; rw [HL.out, hrec.out, List.drop_of_length_le (by omega)]; rfl
      go_wp2_with fail
      go_ret
      exact ⟨ret_bool HF.out.symm, HB.out⟩

set_option maxRecDepth 100000 in
set_option maxHeartbeats 1000000 in
theorem rl_values (l : List V) (least most : Int) (R : V → Bool) (S : Nat → Prop) (w : World) (a : Value) (hS : ∀ k, S k → k < w.heap.size) (ha : RepLG S w l a)
    (tells : ∀ (wr : World), Below w.heap.size w wr → ∀ x ∈ l, ∀ (fa : Option Addr) (fc : Nat), RepG S wr x (.int .i64 x.kind) (.int .i64 x.num) (.string x.text) (.slice fa x.list.length fc) → Calls Try.prog 53 #[.agg #[.int .i64 x.kind, .int .i64 x.num, .string x.text, .slice fa x.list.length fc]] wr fun e w' => e = .returned (.bool (R x)) ∧ Below wr.heap.size wr w') :
    Calls Try.prog 52 #[a, .int .i64 least, .int .i64 most, .func (.func 53) #[] #[]] w fun e w' => e = .returned (.bool (listB least most R l)) ∧ Below w.heap.size w w' := by
  have HA := Lib.hid ha; have HT := Lib.hid tells
  obtain ⟨aa, -, -, cap, rfl, -⟩ := id ha
  have hlen : l.length * 56 ≤ 140737488355328 := by obtain ⟨_, _, _, _, _, _, h, _⟩ := ha; exact h
  clear ha tells
  by_cases h1 : (l.length : Int) < least
  · have HF := Lib.hid (listB_few (most := most) (R := R) h1)
    have h1' : decide ((l.length : Int) < least) = true := by simpa using h1
    go_enter Try.func52, Try.ntmps52
    go_wp2_with fail
    go_ret
    exact ⟨ret_bool HF.out.symm, Below.refl _ _⟩
  have h1' : decide ((l.length : Int) < least) = false := by simpa using h1
  by_cases h2 : most < (l.length : Int)
  · have HF := Lib.hid (listB_many (least := least) (R := R) h2)
    have h2' : decide (most < (l.length : Int)) = true := by simpa using h2
    go_enter Try.func52, Try.ntmps52
    go_wp2_with fail
    go_ret
    exact ⟨ret_bool HF.out.symm, Below.refl _ _⟩
  have h2' : decide (most < (l.length : Int)) = false := by simpa using h2
  have HL := Lib.hid (listB_some (R := R) (show least ≤ (l.length : Int) by omega) (show (l.length : Int) ≤ most by omega))
  clear h1 h2
  go_enter Try.func52, Try.ntmps52
  go_wp2_with fail
  go_loopw [23] (fun i wr => ∃ k : Nat, k ≤ l.length ∧ i = .int .i64 k ∧ Hid (l.all R = (l.drop k).all R) ∧ Below w.heap.size w wr) (fun i _ => l.length - (intOf i).toNat)
  case atStart => exact ⟨0, Nat.zero_le _, rfl, rfl, Below.refl _ _⟩
  case round =>
    obtain ⟨k, hk, rfl, hrec, hbel⟩ := hrel
    have HB := Lib.hid hbel
    clear h1' h2'
    by_cases hl : k < l.length
    · have hA := RepLG.on (fun _ h => h) (fun j hj => hbel.block j (hS j hj)) HA.out
      obtain ⟨-, -, b, o, fa, fc, rfl, -, g0, g1, g2, g3, g⟩ := RepLG.at hA k hl
      have G := Lib.hid g
      have HM := Lib.hid (show l[k] ∈ l from List.getElem_mem hl)
      have HD := Lib.hid (List.drop_eq_getElem_cons hl)
      clear hA g
      generalize l[k] = z at *
      have hba := below_alloc wr (.cells #[.int .i64 z.kind, .int .i64 z.num, .string z.text, .slice fa z.list.length fc] 46)
      have HZ := Lib.hid (RepG.on (fun _ h => h) (fun j hj => hba.block j (Nat.lt_of_lt_of_le (hS j hj) hbel.size)) z G.out)
      have HBA := Lib.hid (Below.step hbel hba)
      clear hbel hba
      have hen : ∀ args w, Sem.run Try.prog (callFunc 53 args) w = .ok (.enter 53 args) w := fun args w => by kernel_rfl
      go_wp2_with fail
      refine (HT.out _ HBA.out z HM.out fa fc HZ.out).mono ?_
      rintro e w3 ⟨rfl, hb3⟩
      have HB3 := Lib.hid (Below.step HBA.out hb3)
      clear hb3
      cases hc : R z with
      | true =>
        have HF : Hid (l.all R = (l.drop (k + 1)).all R) := by show _ = _; rw [hrec.out, HD.out, List.all_cons, hc, Bool.true_and]
        clear hc
        go_wp2_with fail
        go_roundw
        case rel => exact ⟨k + 1, by omega, by go_num, HF, HB3.out⟩
        case measure => simp [intOf]; omega
      | false =>
        have HF : Hid (listB least most R l = false) := by show _ = _; rw [HL.out, hrec.out, HD.out, List.all_cons, hc, Bool.false_and]
        clear hc
        go_wp2_with fail
        go_ret
        exact ⟨ret_bool HF.out.symm, HB3.out⟩
    · have HF : Hid (listB least most R l = true) := by show _ = _; rw [HL.out, hrec.out, List.drop_of_length_le (by omega)]; rfl
      go_wp2_with fail
      go_ret
      exact ⟨ret_bool HF.out.symm, HB.out⟩

set_option maxRecDepth 100000 in
set_option maxHeartbeats 1000000 in
theorem rl_literals (l : List Li) (least most : Int) (R : Li → Bool) (S : Nat → Prop) (w : World) (a : Value) (hS : ∀ k, S k → k < w.heap.size) (ha : RepLis S w l a)
    (tells : ∀ (wr : World), Below w.heap.size w wr → ∀ x ∈ l, ∀ (ga : Option Addr) (gc : Nat), RepLi S wr x (.int .i64 x.kind) (.string x.name) (.slice ga x.args.length gc) → Calls Try.prog 57 #[.agg #[.int .i64 x.kind, .string x.name, .slice ga x.args.length gc]] wr fun e w' => e = .returned (.bool (R x)) ∧ Below wr.heap.size wr w') :
    Calls Try.prog 56 #[a, .int .i64 least, .int .i64 most, .func (.func 57) #[] #[]] w fun e w' => e = .returned (.bool (listB least most R l)) ∧ Below w.heap.size w w' := by
  have HA := Lib.hid ha; have HT := Lib.hid tells
  obtain ⟨aa, cap, rfl⟩ := SlG.form ha
  have hlen : l.length * 48 ≤ 140737488355328 := SlG.bytes ha
  clear ha tells
  by_cases h1 : (l.length : Int) < least
  · have HF := Lib.hid (listB_few (most := most) (R := R) h1)
    have h1' : decide ((l.length : Int) < least) = true := by simpa using h1
    go_enter Try.func56, Try.ntmps56
    go_wp2_with fail
    go_ret
    exact ⟨ret_bool HF.out.symm, Below.refl _ _⟩
  have h1' : decide ((l.length : Int) < least) = false := by simpa using h1
  by_cases h2 : most < (l.length : Int)
  · have HF := Lib.hid (listB_many (least := least) (R := R) h2)
    have h2' : decide (most < (l.length : Int)) = true := by simpa using h2
    go_enter Try.func56, Try.ntmps56
    go_wp2_with fail
    go_ret
    exact ⟨ret_bool HF.out.symm, Below.refl _ _⟩
  have h2' : decide (most < (l.length : Int)) = false := by simpa using h2
  have HL := Lib.hid (listB_some (R := R) (show least ≤ (l.length : Int) by omega) (show (l.length : Int) ≤ most by omega))
  clear h1 h2
  go_enter Try.func56, Try.ntmps56
  go_wp2_with fail
  go_loopw [23] (fun i wr => ∃ k : Nat, k ≤ l.length ∧ i = .int .i64 k ∧ Hid (l.all R = (l.drop k).all R) ∧ Below w.heap.size w wr) (fun i _ => l.length - (intOf i).toNat)
  case atStart => exact ⟨0, Nat.zero_le _, rfl, rfl, Below.refl _ _⟩
  case round =>
    obtain ⟨k, hk, rfl, hrec, hbel⟩ := hrel
    have HB := Lib.hid hbel
    clear h1' h2'
    by_cases hl : k < l.length
    · have hA := RepLis.on (fun _ h => h) (fun j hj => hbel.block j (hS j hj)) HA.out
      obtain ⟨-, -, b, o, ga, gc, rfl, -, g0, g1, g2, g⟩ := RepLis.at hA k hl
      have G := Lib.hid g
      have HM := Lib.hid (show l[k] ∈ l from List.getElem_mem hl)
      have HD := Lib.hid (List.drop_eq_getElem_cons hl)
      clear hA g
      generalize l[k] = z at *
      have hba := below_alloc wr (.cells #[.int .i64 z.kind, .string z.name, .slice ga z.args.length gc] 42)
      have HZ := Lib.hid (RepLi.on (fun _ h => h) (fun j hj => hba.block j (Nat.lt_of_lt_of_le (hS j hj) hbel.size)) G.out)
      have HBA := Lib.hid (Below.step hbel hba)
      clear hbel hba
      have hen : ∀ args w, Sem.run Try.prog (callFunc 57 args) w = .ok (.enter 57 args) w := fun args w => by kernel_rfl
      go_wp2_with fail
      refine (HT.out _ HBA.out z HM.out ga gc HZ.out).mono ?_
      rintro e w3 ⟨rfl, hb3⟩
      have HB3 := Lib.hid (Below.step HBA.out hb3)
      clear hb3
      cases hc : R z with
      | true =>
        have HF : Hid (l.all R = (l.drop (k + 1)).all R) := by show _ = _; rw [hrec.out, HD.out, List.all_cons, hc, Bool.true_and]
        clear hc
        go_wp2_with fail
        go_roundw
        case rel => exact ⟨k + 1, by omega, by go_num, HF, HB3.out⟩
        case measure => simp [intOf]; omega
      | false =>
        have HF : Hid (listB least most R l = false) := by show _ = _; rw [HL.out, hrec.out, HD.out, List.all_cons, hc, Bool.false_and]
        clear hc
        go_wp2_with fail
        go_ret
        exact ⟨ret_bool HF.out.symm, HB3.out⟩
    · have HF : Hid (listB least most R l = true) := by show _ = _; rw [HL.out, hrec.out, List.drop_of_length_le (by omega)]; rfl
      go_wp2_with fail
      go_ret
      exact ⟨ret_bool HF.out.symm, HB.out⟩

set_option maxRecDepth 100000 in
set_option maxHeartbeats 1000000 in
theorem rl_decls (l : List De) (least most : Int) (R : De → Bool) (S : Nat → Prop) (w : World) (a : Value) (hS : ∀ k, S k → k < w.heap.size) (ha : RepDes S w l a)
    (tells : ∀ (wr : World), Below w.heap.size w wr → ∀ x ∈ l, RepDe S wr x (.string x.name) (.int .i64 x.arity) → Calls Try.prog 38 #[.agg #[.string x.name, .int .i64 x.arity]] wr fun e w' => e = .returned (.bool (R x)) ∧ Below wr.heap.size wr w') :
    Calls Try.prog 37 #[a, .int .i64 least, .int .i64 most, .func (.func 38) #[] #[]] w fun e w' => e = .returned (.bool (listB least most R l)) ∧ Below w.heap.size w w' := by
  have HA := Lib.hid ha; have HT := Lib.hid tells
  obtain ⟨aa, cap, rfl⟩ := SlG.form ha
  have hlen : l.length * 24 ≤ 140737488355328 := SlG.bytes ha
  clear ha tells
  by_cases h1 : (l.length : Int) < least
  · have HF := Lib.hid (listB_few (most := most) (R := R) h1)
    have h1' : decide ((l.length : Int) < least) = true := by simpa using h1
    go_enter Try.func37, Try.ntmps37
    go_wp2_with fail
    go_ret
    exact ⟨ret_bool HF.out.symm, Below.refl _ _⟩
  have h1' : decide ((l.length : Int) < least) = false := by simpa using h1
  by_cases h2 : most < (l.length : Int)
  · have HF := Lib.hid (listB_many (least := least) (R := R) h2)
    have h2' : decide (most < (l.length : Int)) = true := by simpa using h2
    go_enter Try.func37, Try.ntmps37
    go_wp2_with fail
    go_ret
    exact ⟨ret_bool HF.out.symm, Below.refl _ _⟩
  have h2' : decide (most < (l.length : Int)) = false := by simpa using h2
  have HL := Lib.hid (listB_some (R := R) (show least ≤ (l.length : Int) by omega) (show (l.length : Int) ≤ most by omega))
  clear h1 h2
  go_enter Try.func37, Try.ntmps37
  go_wp2_with fail
  go_loopw [23] (fun i wr => ∃ k : Nat, k ≤ l.length ∧ i = .int .i64 k ∧ Hid (l.all R = (l.drop k).all R) ∧ Below w.heap.size w wr) (fun i _ => l.length - (intOf i).toNat)
  case atStart => exact ⟨0, Nat.zero_le _, rfl, rfl, Below.refl _ _⟩
  case round =>
    obtain ⟨k, hk, rfl, hrec, hbel⟩ := hrel
    have HB := Lib.hid hbel
    clear h1' h2'
    by_cases hl : k < l.length
    · have hA := RepDes.on (fun _ h => h) (fun j hj => hbel.block j (hS j hj)) HA.out
      obtain ⟨-, -, b, o, rfl, -, g0, g1, g⟩ := RepDes.at hA k hl
      have G := Lib.hid g
      have HM := Lib.hid (show l[k] ∈ l from List.getElem_mem hl)
      have HD := Lib.hid (List.drop_eq_getElem_cons hl)
      clear hA g
      generalize l[k] = z at *
      have hba := below_alloc wr (.cells #[.string z.name, .int .i64 z.arity] 62)
      have HZ := Lib.hid (G.out)
      have HBA := Lib.hid (Below.step hbel hba)
      clear hbel hba
      have hen : ∀ args w, Sem.run Try.prog (callFunc 38 args) w = .ok (.enter 38 args) w := fun args w => by kernel_rfl
      go_wp2_with fail
      refine (HT.out _ HBA.out z HM.out  HZ.out).mono ?_
      rintro e w3 ⟨rfl, hb3⟩
      have HB3 := Lib.hid (Below.step HBA.out hb3)
      clear hb3
      cases hc : R z with
      | true =>
        have HF : Hid (l.all R = (l.drop (k + 1)).all R) := by show _ = _; rw [hrec.out, HD.out, List.all_cons, hc, Bool.true_and]
        clear hc
        go_wp2_with fail
        go_roundw
        case rel => exact ⟨k + 1, by omega, by go_num, HF, HB3.out⟩
        case measure => simp [intOf]; omega
      | false =>
        have HF : Hid (listB least most R l = false) := by show _ = _; rw [HL.out, hrec.out, HD.out, List.all_cons, hc, Bool.false_and]
        clear hc
        go_wp2_with fail
        go_ret
        exact ⟨ret_bool HF.out.symm, HB3.out⟩
    · have HF : Hid (listB least most R l = true) := by show _ = _; rw [HL.out, hrec.out, List.drop_of_length_le (by omega)]; rfl
      go_wp2_with fail
      go_ret
      exact ⟨ret_bool HF.out.symm, HB.out⟩

set_option maxRecDepth 100000 in
set_option maxHeartbeats 1000000 in
theorem rl_facts (l : List Fa) (least most : Int) (R : Fa → Bool) (S : Nat → Prop) (w : World) (a : Value) (hS : ∀ k, S k → k < w.heap.size) (ha : RepFas S w l a)
    (tells : ∀ (wr : World), Below w.heap.size w wr → ∀ x ∈ l, ∀ (ga : Option Addr) (gc : Nat), RepFa S wr x (.string x.name) (.slice ga x.args.length gc) → Calls Try.prog 40 #[.agg #[.string x.name, .slice ga x.args.length gc]] wr fun e w' => e = .returned (.bool (R x)) ∧ Below wr.heap.size wr w') :
    Calls Try.prog 39 #[a, .int .i64 least, .int .i64 most, .func (.func 40) #[] #[]] w fun e w' => e = .returned (.bool (listB least most R l)) ∧ Below w.heap.size w w' := by
  have HA := Lib.hid ha; have HT := Lib.hid tells
  obtain ⟨aa, cap, rfl⟩ := SlG.form ha
  have hlen : l.length * 40 ≤ 140737488355328 := SlG.bytes ha
  clear ha tells
  by_cases h1 : (l.length : Int) < least
  · have HF := Lib.hid (listB_few (most := most) (R := R) h1)
    have h1' : decide ((l.length : Int) < least) = true := by simpa using h1
    go_enter Try.func39, Try.ntmps39
    go_wp2_with fail
    go_ret
    exact ⟨ret_bool HF.out.symm, Below.refl _ _⟩
  have h1' : decide ((l.length : Int) < least) = false := by simpa using h1
  by_cases h2 : most < (l.length : Int)
  · have HF := Lib.hid (listB_many (least := least) (R := R) h2)
    have h2' : decide (most < (l.length : Int)) = true := by simpa using h2
    go_enter Try.func39, Try.ntmps39
    go_wp2_with fail
    go_ret
    exact ⟨ret_bool HF.out.symm, Below.refl _ _⟩
  have h2' : decide (most < (l.length : Int)) = false := by simpa using h2
  have HL := Lib.hid (listB_some (R := R) (show least ≤ (l.length : Int) by omega) (show (l.length : Int) ≤ most by omega))
  clear h1 h2
  go_enter Try.func39, Try.ntmps39
  go_wp2_with fail
  go_loopw [23] (fun i wr => ∃ k : Nat, k ≤ l.length ∧ i = .int .i64 k ∧ Hid (l.all R = (l.drop k).all R) ∧ Below w.heap.size w wr) (fun i _ => l.length - (intOf i).toNat)
  case atStart => exact ⟨0, Nat.zero_le _, rfl, rfl, Below.refl _ _⟩
  case round =>
    obtain ⟨k, hk, rfl, hrec, hbel⟩ := hrel
    have HB := Lib.hid hbel
    clear h1' h2'
    by_cases hl : k < l.length
    · have hA := RepFas.on (fun _ h => h) (fun j hj => hbel.block j (hS j hj)) HA.out
      obtain ⟨-, -, b, o, ga, gc, rfl, -, g0, g1, g⟩ := RepFas.at hA k hl
      have G := Lib.hid g
      have HM := Lib.hid (show l[k] ∈ l from List.getElem_mem hl)
      have HD := Lib.hid (List.drop_eq_getElem_cons hl)
      clear hA g
      generalize l[k] = z at *
      have hba := below_alloc wr (.cells #[.string z.name, .slice ga z.args.length gc] 56)
      have HZ := Lib.hid (RepFa.on (fun _ h => h) (fun j hj => hba.block j (Nat.lt_of_lt_of_le (hS j hj) hbel.size)) G.out)
      have HBA := Lib.hid (Below.step hbel hba)
      clear hbel hba
      have hen : ∀ args w, Sem.run Try.prog (callFunc 40 args) w = .ok (.enter 40 args) w := fun args w => by kernel_rfl
      go_wp2_with fail
      refine (HT.out _ HBA.out z HM.out ga gc HZ.out).mono ?_
      rintro e w3 ⟨rfl, hb3⟩
      have HB3 := Lib.hid (Below.step HBA.out hb3)
      clear hb3
      cases hc : R z with
      | true =>
        have HF : Hid (l.all R = (l.drop (k + 1)).all R) := by show _ = _; rw [hrec.out, HD.out, List.all_cons, hc, Bool.true_and]
        clear hc
        go_wp2_with fail
        go_roundw
        case rel => exact ⟨k + 1, by omega, by go_num, HF, HB3.out⟩
        case measure => simp [intOf]; omega
      | false =>
        have HF : Hid (listB least most R l = false) := by show _ = _; rw [HL.out, hrec.out, HD.out, List.all_cons, hc, Bool.false_and]
        clear hc
        go_wp2_with fail
        go_ret
        exact ⟨ret_bool HF.out.symm, HB3.out⟩
    · have HF : Hid (listB least most R l = true) := by show _ = _; rw [HL.out, hrec.out, List.drop_of_length_le (by omega)]; rfl
      go_wp2_with fail
      go_ret
      exact ⟨ret_bool HF.out.symm, HB.out⟩

set_option maxRecDepth 100000 in
set_option maxHeartbeats 1000000 in
theorem rl_rules (l : List Ru) (least most : Int) (R : Ru → Bool) (S : Nat → Prop) (w : World) (a : Value) (hS : ∀ k, S k → k < w.heap.size) (ha : RepRus S w l a)
    (tells : ∀ (wr : World), Below w.heap.size w wr → ∀ x ∈ l, ∀ (fa : Option Addr) (fc : Nat) (ga : Option Addr) (gc : Nat), RepRu S wr x (.string x.label) (.string x.head) (.slice fa x.args.length fc) (.string x.agg) (.int .i64 x.at') (.slice ga x.body.length gc) → Calls Try.prog 42 #[.agg #[.string x.label, .string x.head, .slice fa x.args.length fc, .string x.agg, .int .i64 x.at', .slice ga x.body.length gc]] wr fun e w' => e = .returned (.bool (R x)) ∧ Below wr.heap.size wr w') :
    Calls Try.prog 41 #[a, .int .i64 least, .int .i64 most, .func (.func 42) #[] #[]] w fun e w' => e = .returned (.bool (listB least most R l)) ∧ Below w.heap.size w w' := by
  have HA := Lib.hid ha; have HT := Lib.hid tells
  obtain ⟨aa, cap, rfl⟩ := SlG.form ha
  have hlen : l.length * 104 ≤ 140737488355328 := SlG.bytes ha
  clear ha tells
  by_cases h1 : (l.length : Int) < least
  · have HF := Lib.hid (listB_few (most := most) (R := R) h1)
    have h1' : decide ((l.length : Int) < least) = true := by simpa using h1
    go_enter Try.func41, Try.ntmps41
    go_wp2_with fail
    go_ret
    exact ⟨ret_bool HF.out.symm, Below.refl _ _⟩
  have h1' : decide ((l.length : Int) < least) = false := by simpa using h1
  by_cases h2 : most < (l.length : Int)
  · have HF := Lib.hid (listB_many (least := least) (R := R) h2)
    have h2' : decide (most < (l.length : Int)) = true := by simpa using h2
    go_enter Try.func41, Try.ntmps41
    go_wp2_with fail
    go_ret
    exact ⟨ret_bool HF.out.symm, Below.refl _ _⟩
  have h2' : decide (most < (l.length : Int)) = false := by simpa using h2
  have HL := Lib.hid (listB_some (R := R) (show least ≤ (l.length : Int) by omega) (show (l.length : Int) ≤ most by omega))
  clear h1 h2
  go_enter Try.func41, Try.ntmps41
  go_wp2_with fail
  go_loopw [23] (fun i wr => ∃ k : Nat, k ≤ l.length ∧ i = .int .i64 k ∧ Hid (l.all R = (l.drop k).all R) ∧ Below w.heap.size w wr) (fun i _ => l.length - (intOf i).toNat)
  case atStart => exact ⟨0, Nat.zero_le _, rfl, rfl, Below.refl _ _⟩
  case round =>
    obtain ⟨k, hk, rfl, hrec, hbel⟩ := hrel
    have HB := Lib.hid hbel
    clear h1' h2'
    by_cases hl : k < l.length
    · have hA := RepRus.on (fun _ h => h) (fun j hj => hbel.block j (hS j hj)) HA.out
      obtain ⟨-, -, b, o, fa, fc, ga, gc, rfl, -, g0, g1, g2, g3, g4, g5, g⟩ := RepRus.at hA k hl
      have G := Lib.hid g
      have HM := Lib.hid (show l[k] ∈ l from List.getElem_mem hl)
      have HD := Lib.hid (List.drop_eq_getElem_cons hl)
      clear hA g
      generalize l[k] = z at *
      have hba := below_alloc wr (.cells #[.string z.label, .string z.head, .slice fa z.args.length fc, .string z.agg, .int .i64 z.at', .slice ga z.body.length gc] 39)
      have HZ := Lib.hid (RepRu.on (fun _ h => h) (fun j hj => hba.block j (Nat.lt_of_lt_of_le (hS j hj) hbel.size)) G.out)
      have HBA := Lib.hid (Below.step hbel hba)
      clear hbel hba
      have hen : ∀ args w, Sem.run Try.prog (callFunc 42 args) w = .ok (.enter 42 args) w := fun args w => by kernel_rfl
      go_wp2_with fail
      refine (HT.out _ HBA.out z HM.out fa fc ga gc HZ.out).mono ?_
      rintro e w3 ⟨rfl, hb3⟩
      have HB3 := Lib.hid (Below.step HBA.out hb3)
      clear hb3
      cases hc : R z with
      | true =>
        have HF : Hid (l.all R = (l.drop (k + 1)).all R) := by show _ = _; rw [hrec.out, HD.out, List.all_cons, hc, Bool.true_and]
        clear hc
        go_wp2_with fail
        go_roundw
        case rel => exact ⟨k + 1, by omega, by go_num, HF, HB3.out⟩
        case measure => simp [intOf]; omega
      | false =>
        have HF : Hid (listB least most R l = false) := by show _ = _; rw [HL.out, hrec.out, HD.out, List.all_cons, hc, Bool.false_and]
        clear hc
        go_wp2_with fail
        go_ret
        exact ⟨ret_bool HF.out.symm, HB3.out⟩
    · have HF : Hid (listB least most R l = true) := by show _ = _; rw [HL.out, hrec.out, List.drop_of_length_le (by omega)]; rfl
      go_wp2_with fail
      go_ret
      exact ⟨ret_bool HF.out.symm, HB.out⟩

end Go.Proofs.Ytkaiihoijcpldaa
