/-
  Find, TermRight, TermText, ShowLe, ApartBase
-/
import Derived.Test.YtgjemmdhamkngaaGreatDoorK02
import Derived.Test.YtgjemmdhamkngaaGreatDoorK04
import Derived.Test.YtgjemmdhamkngaaGreatDoorK03
import Derived.Laws.EntriesVeiled
namespace Go.Proofs.YtgjemmdhamkngaaGreatDoor
open Go.RowKit
def fname : Nat → List UInt8
 | 0 => [102, 95, 99, 111, 110, 115]
 | 1 => [102, 95, 97, 112, 112, 101, 110, 100]
 | 2 => [102, 95, 99, 111, 110, 99, 97, 116]
 | 3 => [102, 95, 109, 101, 109, 98, 101, 114]
 | 4 => [102, 95, 115, 105, 122, 101]
 | 5 => [102, 95, 102, 105, 114, 115, 116]
 | 6 => [102, 95, 108, 97, 115, 116]
 | 7 => [102, 95, 114, 101, 115, 116]
 | 8 => [102, 95, 114, 101, 118, 101, 114, 115, 101]
 | _ => []
def fnOf (s : ByteArray) : Nat :=
 if (s.toList == [102, 95, 99, 111, 110, 115]) = true then 0
 else if (s.toList == [102, 95, 97, 112, 112, 101, 110, 100]) = true then 1
 else if (s.toList == [102, 95, 99, 111, 110, 99, 97, 116]) = true then 2
 else if (s.toList == [102, 95, 109, 101, 109, 98, 101, 114]) = true then 3
 else if (s.toList == [102, 95, 115, 105, 122, 101]) = true then 4
 else if (s.toList == [102, 95, 102, 105, 114, 115, 116]) = true then 5
 else if (s.toList == [102, 95, 108, 97, 115, 116]) = true then 6
 else if (s.toList == [102, 95, 114, 101, 115, 116]) = true then 7
 else if (s.toList == [102, 95, 114, 101, 118, 101, 114, 115, 101]) = true then 8
 else 9
def fnArity : Nat → Int
 | 0 => 2
 | 1 => 2
 | 2 => 2
 | 3 => 2
 | 4 => 1
 | 5 => 1
 | 6 => 1
 | 7 => 1
 | 8 => 1
 | _ => -1
def fnList : Nat → Nat → Bool
 | 0, 0 => false | 0, 1 => true
 | 1, 0 => true | 1, 1 => false
 | 2, 0 => true | 2, 1 => true
 | 3, 0 => true | 3, 1 => false
 | 4, 0 => true | 4, 1 => false
 | 5, 0 => true | 5, 1 => false
 | 6, 0 => true | 6, 1 => false
 | 7, 0 => true | 7, 1 => false
 | 8, 0 => true | 8, 1 => false
 | _, _ => false
def fnDo : Nat → Value
 | 0 => .func (.func 130) #[] #[]
 | 1 => .func (.func 131) #[] #[]
 | 2 => .func (.func 132) #[] #[]
 | 3 => .func (.func 133) #[] #[]
 | 4 => .func (.func 134) #[] #[]
 | 5 => .func (.func 135) #[] #[]
 | 6 => .func (.func 136) #[] #[]
 | 7 => .func (.func 137) #[] #[]
 | 8 => .func (.func 138) #[] #[]
 | _ => .nilFunc
def FindPost (k : Nat) (w : World) (e : Ending) (w' : World) : Prop := e = .returned (.agg #[.int .i64 (fnArity k), .bool (fnList k 0), .bool (fnList k 1), fnDo k]) ∧ Below w.heap.size w w'
set_option maxRecDepth 100000 in
set_option maxHeartbeats 1000000 in
theorem find_0 (s : ByteArray) (w : World) (h0 : (s.toList == [102, 95, 99, 111, 110, 115]) = true) : Calls Tryz.prog 128 #[.string s] w (FindPost 0 w) := by
 go_enter Tryz.func128, Tryz.ntmps128
 go_wp2_with fail
 exact bodyPost_ret (v := .agg #[.int .i64 2, .bool false, .bool true, .func (.func 130) #[] #[]]) (by simp [results, Tryz.results128, go_sem]) rfl ⟨rfl, (Below.refl _ _).alloc (Nat.le_refl _) _⟩
set_option maxRecDepth 100000 in
set_option maxHeartbeats 1000000 in
theorem find_1 (s : ByteArray) (w : World) (h0 : (s.toList == [102, 95, 99, 111, 110, 115]) = false) (h1 : (s.toList == [102, 95, 97, 112, 112, 101, 110, 100]) = true) : Calls Tryz.prog 128 #[.string s] w (FindPost 1 w) := by
 go_enter Tryz.func128, Tryz.ntmps128
 go_wp2_with fail
 exact bodyPost_ret (v := .agg #[.int .i64 2, .bool true, .bool false, .func (.func 131) #[] #[]]) (by simp [results, Tryz.results128, go_sem]) rfl ⟨rfl, (Below.refl _ _).alloc (Nat.le_refl _) _⟩
set_option maxRecDepth 100000 in
set_option maxHeartbeats 1000000 in
theorem find_2 (s : ByteArray) (w : World) (h0 : (s.toList == [102, 95, 99, 111, 110, 115]) = false) (h1 : (s.toList == [102, 95, 97, 112, 112, 101, 110, 100]) = false) (h2 : (s.toList == [102, 95, 99, 111, 110, 99, 97, 116]) = true) : Calls Tryz.prog 128 #[.string s] w (FindPost 2 w) := by
 go_enter Tryz.func128, Tryz.ntmps128
 go_wp2_with fail
 exact bodyPost_ret (v := .agg #[.int .i64 2, .bool true, .bool true, .func (.func 132) #[] #[]]) (by simp [results, Tryz.results128, go_sem]) rfl ⟨rfl, (Below.refl _ _).alloc (Nat.le_refl _) _⟩
set_option maxRecDepth 100000 in
set_option maxHeartbeats 1000000 in
theorem find_3 (s : ByteArray) (w : World) (h0 : (s.toList == [102, 95, 99, 111, 110, 115]) = false) (h1 : (s.toList == [102, 95, 97, 112, 112, 101, 110, 100]) = false) (h2 : (s.toList == [102, 95, 99, 111, 110, 99, 97, 116]) = false) (h3 : (s.toList == [102, 95, 109, 101, 109, 98, 101, 114]) = true) : Calls Tryz.prog 128 #[.string s] w (FindPost 3 w) := by
 go_enter Tryz.func128, Tryz.ntmps128
 go_wp2_with fail
 exact bodyPost_ret (v := .agg #[.int .i64 2, .bool true, .bool false, .func (.func 133) #[] #[]]) (by simp [results, Tryz.results128, go_sem]) rfl ⟨rfl, (Below.refl _ _).alloc (Nat.le_refl _) _⟩
set_option maxRecDepth 100000 in
set_option maxHeartbeats 1000000 in
theorem find_4 (s : ByteArray) (w : World) (h0 : (s.toList == [102, 95, 99, 111, 110, 115]) = false) (h1 : (s.toList == [102, 95, 97, 112, 112, 101, 110, 100]) = false) (h2 : (s.toList == [102, 95, 99, 111, 110, 99, 97, 116]) = false) (h3 : (s.toList == [102, 95, 109, 101, 109, 98, 101, 114]) = false) (h4 : (s.toList == [102, 95, 115, 105, 122, 101]) = true) : Calls Tryz.prog 128 #[.string s] w (FindPost 4 w) := by
 go_enter Tryz.func128, Tryz.ntmps128
 go_wp2_with fail
 exact bodyPost_ret (v := .agg #[.int .i64 1, .bool true, .bool false, .func (.func 134) #[] #[]]) (by simp [results, Tryz.results128, go_sem]) rfl ⟨rfl, (Below.refl _ _).alloc (Nat.le_refl _) _⟩
set_option maxRecDepth 100000 in
set_option maxHeartbeats 1000000 in
theorem find_5 (s : ByteArray) (w : World) (h0 : (s.toList == [102, 95, 99, 111, 110, 115]) = false) (h1 : (s.toList == [102, 95, 97, 112, 112, 101, 110, 100]) = false) (h2 : (s.toList == [102, 95, 99, 111, 110, 99, 97, 116]) = false) (h3 : (s.toList == [102, 95, 109, 101, 109, 98, 101, 114]) = false) (h4 : (s.toList == [102, 95, 115, 105, 122, 101]) = false) (h5 : (s.toList == [102, 95, 102, 105, 114, 115, 116]) = true) : Calls Tryz.prog 128 #[.string s] w (FindPost 5 w) := by
 go_enter Tryz.func128, Tryz.ntmps128
 go_wp2_with fail
 exact bodyPost_ret (v := .agg #[.int .i64 1, .bool true, .bool false, .func (.func 135) #[] #[]]) (by simp [results, Tryz.results128, go_sem]) rfl ⟨rfl, (Below.refl _ _).alloc (Nat.le_refl _) _⟩
set_option maxRecDepth 100000 in
set_option maxHeartbeats 1000000 in
theorem find_6 (s : ByteArray) (w : World) (h0 : (s.toList == [102, 95, 99, 111, 110, 115]) = false) (h1 : (s.toList == [102, 95, 97, 112, 112, 101, 110, 100]) = false) (h2 : (s.toList == [102, 95, 99, 111, 110, 99, 97, 116]) = false) (h3 : (s.toList == [102, 95, 109, 101, 109, 98, 101, 114]) = false) (h4 : (s.toList == [102, 95, 115, 105, 122, 101]) = false) (h5 : (s.toList == [102, 95, 102, 105, 114, 115, 116]) = false) (h6 : (s.toList == [102, 95, 108, 97, 115, 116]) = true) : Calls Tryz.prog 128 #[.string s] w (FindPost 6 w) := by
 go_enter Tryz.func128, Tryz.ntmps128
 go_wp2_with fail
 exact bodyPost_ret (v := .agg #[.int .i64 1, .bool true, .bool false, .func (.func 136) #[] #[]]) (by simp [results, Tryz.results128, go_sem]) rfl ⟨rfl, (Below.refl _ _).alloc (Nat.le_refl _) _⟩
set_option maxRecDepth 100000 in
set_option maxHeartbeats 1000000 in
theorem find_7 (s : ByteArray) (w : World) (h0 : (s.toList == [102, 95, 99, 111, 110, 115]) = false) (h1 : (s.toList == [102, 95, 97, 112, 112, 101, 110, 100]) = false) (h2 : (s.toList == [102, 95, 99, 111, 110, 99, 97, 116]) = false) (h3 : (s.toList == [102, 95, 109, 101, 109, 98, 101, 114]) = false) (h4 : (s.toList == [102, 95, 115, 105, 122, 101]) = false) (h5 : (s.toList == [102, 95, 102, 105, 114, 115, 116]) = false) (h6 : (s.toList == [102, 95, 108, 97, 115, 116]) = false) (h7 : (s.toList == [102, 95, 114, 101, 115, 116]) = true) : Calls Tryz.prog 128 #[.string s] w (FindPost 7 w) := by
 go_enter Tryz.func128, Tryz.ntmps128
 go_wp2_with fail
 exact bodyPost_ret (v := .agg #[.int .i64 1, .bool true, .bool false, .func (.func 137) #[] #[]]) (by simp [results, Tryz.results128, go_sem]) rfl ⟨rfl, (Below.refl _ _).alloc (Nat.le_refl _) _⟩
set_option maxRecDepth 100000 in
set_option maxHeartbeats 1000000 in
theorem find_8 (s : ByteArray) (w : World) (h0 : (s.toList == [102, 95, 99, 111, 110, 115]) = false) (h1 : (s.toList == [102, 95, 97, 112, 112, 101, 110, 100]) = false) (h2 : (s.toList == [102, 95, 99, 111, 110, 99, 97, 116]) = false) (h3 : (s.toList == [102, 95, 109, 101, 109, 98, 101, 114]) = false) (h4 : (s.toList == [102, 95, 115, 105, 122, 101]) = false) (h5 : (s.toList == [102, 95, 102, 105, 114, 115, 116]) = false) (h6 : (s.toList == [102, 95, 108, 97, 115, 116]) = false) (h7 : (s.toList == [102, 95, 114, 101, 115, 116]) = false) (h8 : (s.toList == [102, 95, 114, 101, 118, 101, 114, 115, 101]) = true) : Calls Tryz.prog 128 #[.string s] w (FindPost 8 w) := by
 go_enter Tryz.func128, Tryz.ntmps128
 go_wp2_with fail
 exact bodyPost_ret (v := .agg #[.int .i64 1, .bool true, .bool false, .func (.func 138) #[] #[]]) (by simp [results, Tryz.results128, go_sem]) rfl ⟨rfl, (Below.refl _ _).alloc (Nat.le_refl _) _⟩
set_option maxRecDepth 100000 in
set_option maxHeartbeats 1000000 in
theorem find_9 (s : ByteArray) (w : World) (h0 : (s.toList == [102, 95, 99, 111, 110, 115]) = false) (h1 : (s.toList == [102, 95, 97, 112, 112, 101, 110, 100]) = false) (h2 : (s.toList == [102, 95, 99, 111, 110, 99, 97, 116]) = false) (h3 : (s.toList == [102, 95, 109, 101, 109, 98, 101, 114]) = false) (h4 : (s.toList == [102, 95, 115, 105, 122, 101]) = false) (h5 : (s.toList == [102, 95, 102, 105, 114, 115, 116]) = false) (h6 : (s.toList == [102, 95, 108, 97, 115, 116]) = false) (h7 : (s.toList == [102, 95, 114, 101, 115, 116]) = false) (h8 : (s.toList == [102, 95, 114, 101, 118, 101, 114, 115, 101]) = false) : Calls Tryz.prog 128 #[.string s] w (FindPost 9 w) := by
 go_enter Tryz.func128, Tryz.ntmps128
 go_wp2_with fail
 exact bodyPost_ret (v := .agg #[.int .i64 (-1), .bool false, .bool false, .nilFunc]) (by simp [results, Tryz.results128, go_sem]) rfl ⟨rfl, (Below.refl _ _).alloc (Nat.le_refl _) _⟩
theorem find_any (s : ByteArray) (w : World) : Calls Tryz.prog 128 #[.string s] w (FindPost (fnOf s) w) := by
 unfold fnOf
 cases h0 : (s.toList == [102, 95, 99, 111, 110, 115]) with
 | true => rw [if_pos rfl]; exact find_0 s w h0
 | false =>
 rw [if_neg (by decide)]
 cases h1 : (s.toList == [102, 95, 97, 112, 112, 101, 110, 100]) with
 | true => rw [if_pos rfl]; exact find_1 s w h0 h1
 | false =>
 rw [if_neg (by decide)]
 cases h2 : (s.toList == [102, 95, 99, 111, 110, 99, 97, 116]) with
 | true => rw [if_pos rfl]; exact find_2 s w h0 h1 h2
 | false =>
 rw [if_neg (by decide)]
 cases h3 : (s.toList == [102, 95, 109, 101, 109, 98, 101, 114]) with
 | true => rw [if_pos rfl]; exact find_3 s w h0 h1 h2 h3
 | false =>
 rw [if_neg (by decide)]
 cases h4 : (s.toList == [102, 95, 115, 105, 122, 101]) with
 | true => rw [if_pos rfl]; exact find_4 s w h0 h1 h2 h3 h4
 | false =>
 rw [if_neg (by decide)]
 cases h5 : (s.toList == [102, 95, 102, 105, 114, 115, 116]) with
 | true => rw [if_pos rfl]; exact find_5 s w h0 h1 h2 h3 h4 h5
 | false =>
 rw [if_neg (by decide)]
 cases h6 : (s.toList == [102, 95, 108, 97, 115, 116]) with
 | true => rw [if_pos rfl]; exact find_6 s w h0 h1 h2 h3 h4 h5 h6
 | false =>
 rw [if_neg (by decide)]
 cases h7 : (s.toList == [102, 95, 114, 101, 115, 116]) with
 | true => rw [if_pos rfl]; exact find_7 s w h0 h1 h2 h3 h4 h5 h6 h7
 | false =>
 rw [if_neg (by decide)]
 cases h8 : (s.toList == [102, 95, 114, 101, 118, 101, 114, 115, 101]) with
 | true => rw [if_pos rfl]; exact find_8 s w h0 h1 h2 h3 h4 h5 h6 h7 h8
 | false =>
 rw [if_neg (by decide)]
 exact find_9 s w h0 h1 h2 h3 h4 h5 h6 h7 h8
theorem fnArity_range (k : Nat) : fnArity k = 2 ∨ fnArity k = 1 ∨ fnArity k = -1 := by
 unfold fnArity; split <;> simp
theorem field_arity (a b c d : Value) (w : World) : Sem.run Tryz.prog (Instr.field 139 (.agg #[a, b, c, d]) 0) w = .ok a w := by
 kernel_rfl
set_option maxRecDepth 100000 in
set_option maxHeartbeats 1000000 in
theorem arity_any (s : ByteArray) (w : World) : Calls Tryz.prog 117 #[.string s] w fun e w' => e = .returned (.int .i64 (fnArity (fnOf s))) ∧ Below w.heap.size w w' := by
 go_enter Tryz.func117, Tryz.ntmps117
 go_wp2_with fail
 refine (find_any s w).mono ?_
 rintro e w1 ⟨rfl, hb⟩
 have hf := field_arity
 go_wp2_with fail
 go_ret
 exact ⟨rfl, hb⟩
end Go.Proofs.YtgjemmdhamkngaaGreatDoor
namespace Go.Proofs.YtgjemmdhamkngaaGreatDoor
open Go.RowKit
def noneB (x : V) : Bool := x.kind == 0 && (x.num == 0 && (x.text.toList.isEmpty && x.list.isEmpty))
def fnB (s : ByteArray) : Bool := decide (0 ≤ fnArity (fnOf s))
def declB (s : ByteArray) : Bool := s.toList == [109, 97, 116, 101, 114, 105, 97, 108, 105, 122, 101]
def relB (s : ByteArray) : Bool := nameB s && (!fnB s && !declB s)
def valB (x : V) : Bool := rightV 4 x && !(x.kind == 3 && fnB x.text)
def opB (s : ByteArray) : Bool := s.toList == [43] || (s.toList == [45] || s.toList == [42])
def cmpB (s : ByteArray) : Bool := s.toList == [61, 61] || (s.toList == [33, 61] || (s.toList == [60] || (s.toList == [60, 61] || (s.toList == [62] || s.toList == [62, 61]))))
def listB {α : Type} (least most : Int) (R : α → Bool) (l : List α) : Bool := decide (least ≤ (l.length : Int)) && (decide ((l.length : Int) ≤ most) && l.all R)
def rightM : Nat → Tm → Bool
 | 0, _ => false
 | d + 1, .mk k s x l =>
  if k = 1 then varB s && (noneB x && l.isEmpty)
  else if k = 2 then s.toList.isEmpty && (valB x && l.isEmpty)
  else if k = 3 then noneB x && listB (fnArity (fnOf s)) (fnArity (fnOf s)) (rightM d) l
  else if k = 4 then opB s && (noneB x && listB 2 2 (rightM d) l)
  else false
def placeB (t : Tm) : Bool := t.kind == 1 || (t.kind == 2 && t.val.kind == 3)
def headB (l : List Tm) : Bool := match l with
 | [] => false
 | t :: _ => placeB t
def atomB (s : ByteArray) (l : List Tm) : Bool := relB s && (listB 1 8 (rightM 8) l && headB l)
def aggNameB (s : ByteArray) : Bool := s.toList == [109, 105, 110] || (s.toList == [109, 97, 120] || s.toList == [99, 111, 117, 110, 116])
def kindAt (l : List Tm) (i : Int) : Int := match l[i.toNat]? with
 | some t => t.kind
 | none => 0
def aggB (r : Ru) : Bool :=
 if r.agg.toList.isEmpty = true then r.at' == 0
 else aggNameB r.agg && (decide (1 ≤ r.at') && (decide (r.at' < (r.args.length : Int)) && kindAt r.args r.at' == 1))
def liB (x : Li) : Bool :=
 if x.kind = 1 then atomB x.name x.args
 else if x.kind = 2 then atomB x.name x.args
 else if x.kind = 3 then cmpB x.name && listB 2 2 (rightM 8) x.args
 else if x.kind = 4 then varB x.name && listB 1 1 (rightM 8) x.args
 else false
def ruB (r : Ru) : Bool := relB r.label && (atomB r.head r.args && (aggB r && listB 1 8 liB r.body))
def deB (d : De) : Bool := relB d.name && (decide (1 ≤ d.arity) && decide (d.arity ≤ 8))
def headV (l : List V) : Bool := match l with
 | [] => false
 | x :: _ => x.kind == 3
def faB (t : Fa) : Bool := relB t.name && (listB 1 8 (rightV 4) t.args && headV t.args)
def prB (p : Pr) : Bool := listB 0 64 deB p.decls && (listB 0 64 faB p.facts && listB 0 64 ruB p.rules)
theorem listB_few {α : Type} {least most : Int} {R : α → Bool} {l : List α} (h : (l.length : Int) < least) : listB least most R l = false := by
 unfold listB; rw [decide_eq_false (by omega)]; rfl
theorem listB_many {α : Type} {least most : Int} {R : α → Bool} {l : List α} (h : most < (l.length : Int)) : listB least most R l = false := by
 unfold listB; rw [decide_eq_false (p := (l.length : Int) ≤ most) (by omega)]; simp
theorem listB_some {α : Type} {least most : Int} {R : α → Bool} {l : List α} (h1 : least ≤ (l.length : Int)) (h2 : (l.length : Int) ≤ most) : listB least most R l = l.all R := by
 unfold listB; rw [decide_eq_true h1, decide_eq_true h2]; rfl
theorem listB_bounds {α : Type} {least most : Int} {R : α → Bool} {l : List α} (h : listB least most R l = true) : least ≤ (l.length : Int) ∧ (l.length : Int) ≤ most ∧ ∀ x ∈ l, R x = true := by
 unfold listB at h
 simp only [Bool.and_eq_true, decide_eq_true_eq, List.all_eq_true] at h
 exact ⟨h.1, h.2.1, h.2.2⟩
theorem rightM_zero (t : Tm) : rightM 0 t = false := by rw [rightM]
theorem rightM_succ (d : Nat) (k : Int) (s : ByteArray) (x : V) (l : List Tm) : rightM (d + 1) (.mk k s x l) =
  if k = 1 then varB s && (noneB x && l.isEmpty)
  else if k = 2 then s.toList.isEmpty && (valB x && l.isEmpty)
  else if k = 3 then noneB x && listB (fnArity (fnOf s)) (fnArity (fnOf s)) (rightM d) l
  else if k = 4 then opB s && (noneB x && listB 2 2 (rightM d) l)
  else false := by rw [rightM]
end Go.Proofs.YtgjemmdhamkngaaGreatDoor
namespace Go.Proofs.YtgjemmdhamkngaaGreatDoor
open Go.RowKit
def sepL (sep : List UInt8) : List (List UInt8) → List UInt8
 | [] => []
 | x :: l => x ++ (l.map fun y => sep ++ y).flatten
theorem sepL_snoc (sep : List UInt8) (l : List (List UInt8)) (x : List UInt8) : sepL sep (l ++ [x]) = sepL sep l ++ ((if l = [] then [] else sep) ++ x) := by
 cases l with
 | nil => simp [sepL]
 | cons y l => simp [sepL]
theorem sepL_take_le (sep : List UInt8) : ∀ (l : List (List UInt8)) (k : Nat), (sepL sep (l.take k)).length ≤ (sepL sep l).length
 | [], k => by simp
 | x :: l, 0 => by simp [sepL]
 | x :: l, k + 1 => by
  have key : ∀ (m : List (List UInt8)) (j : Nat), (((m.take j).map fun y => sep ++ y).flatten).length ≤ ((m.map fun y => sep ++ y).flatten).length := by
   intro m
   induction m with
   | nil => intro j; simp
   | cons y m ih =>
    intro j
    cases j with
    | zero => simp
    | succ j => have := ih j; simp only [List.take_succ_cons, List.map_cons, List.flatten_cons, List.length_append]; omega
  have := key l k
  simp only [List.take_succ_cons, sepL, List.length_append]; omega
def showM : Tm → List UInt8
 | .mk k s x l => if k = 1 then s.data.toList
  else if k = 2 then printB x
  else if k = 3 then s.data.toList ++ (40 :: (sepL [44] (l.attach.map fun y => showM y.1) ++ [41]))
  else if k = 4 then 40 :: (sepL s.data.toList (l.attach.map fun y => showM y.1) ++ [41])
  else []
 termination_by t => SizeOf.sizeOf t
 decreasing_by
  all_goals
   have := List.sizeOf_lt_of_mem y.2
   simp only [Tm.mk.sizeOf_spec]
   omega
theorem showM_mk (k : Int) (s : ByteArray) (x : V) (l : List Tm) : showM (.mk k s x l) = if k = 1 then s.data.toList
  else if k = 2 then printB x
  else if k = 3 then s.data.toList ++ (40 :: (sepL [44] (l.map showM) ++ [41]))
  else if k = 4 then 40 :: (sepL s.data.toList (l.map showM) ++ [41])
  else [] := by
 rw [showM]
 have e : (l.attach.map fun y => showM y.1) = l.map showM := by simp
 rw [e]
def showAtom (s : ByteArray) (l : List (List UInt8)) : List UInt8 := s.data.toList ++ (40 :: 64 :: (sepL [44] l ++ [41]))
def showLi (x : Li) : List UInt8 :=
 if x.kind = 1 then showAtom x.name (x.args.map showM)
 else if x.kind = 2 then 33 :: showAtom x.name (x.args.map showM)
 else if x.kind = 3 then sepL (32 :: (x.name.data.toList ++ [32])) (x.args.map showM)
 else if x.kind = 4 then x.name.data.toList ++ (32 :: 58 :: 61 :: 32 :: ((x.args.map showM).head?.getD []))
 else []
def aggAt (x : Ru) (i : Nat) (t : List UInt8) : List UInt8 := if x.agg.toList.isEmpty = true ∨ (i : Int) ≠ x.at' then t else x.agg.data.toList ++ (60 :: (t ++ [62]))
def showHead (x : Ru) : List UInt8 := showAtom x.head ((x.args.map showM).mapIdx fun i t => aggAt x i t)
def showRu (x : Ru) : List UInt8 := x.label.data.toList ++ (32 :: (showHead x ++ ([32, 58, 45, 32] ++ (sepL [44, 32] (x.body.map showLi) ++ [46]))))
def showFa (x : Fa) : List UInt8 := showAtom x.name (x.args.map printB) ++ [46]
def showDe (x : De) : List UInt8 := [109, 97, 116, 101, 114, 105, 97, 108, 105, 122, 101] ++ (40 :: (x.name.data.toList ++ (44 :: (Lib.itoa x.arity ++ [41, 46]))))
def linesOf (l : List (List UInt8)) : List UInt8 := (l.map fun t => t ++ [10]).flatten
def showPr (x : Pr) : List UInt8 := linesOf (x.decls.map showDe) ++ (linesOf (x.facts.map showFa) ++ linesOf (x.rules.map showRu))
end Go.Proofs.YtgjemmdhamkngaaGreatDoor
namespace Go.Proofs.YtgjemmdhamkngaaGreatDoor
open Go.RowKit
theorem fnm_text {s : ByteArray} {k : Nat} (hk : k < 9) (h : fnOf s = k) : s.data.toList = fname k := by
 rw [← Lib.toList_data]
 unfold fnOf at h
 split at h
 ·subst h; rename_i e; simpa [fname] using e
 split at h
 ·subst h; rename_i e; simpa [fname] using e
 split at h
 ·subst h; rename_i e; simpa [fname] using e
 split at h
 ·subst h; rename_i e; simpa [fname] using e
 split at h
 ·subst h; rename_i e; simpa [fname] using e
 split at h
 ·subst h; rename_i e; simpa [fname] using e
 split at h
 ·subst h; rename_i e; simpa [fname] using e
 split at h
 ·subst h; rename_i e; simpa [fname] using e
 split at h
 ·subst h; rename_i e; simpa [fname] using e
 ·omega
theorem fnm_of {s : ByteArray} (h : 0 ≤ fnArity (fnOf s)) : ∃ k, k < 9 ∧ fnOf s = k ∧ s.data.toList = fname k := by
 by_cases hk : fnOf s < 9
 ·exact ⟨fnOf s, hk, rfl, fnm_text hk rfl⟩
 ·have e : fnArity (fnOf s) = -1 := by
   match hf : fnOf s with
   | 0 | 1 | 2 | 3 | 4 | 5 | 6 | 7 | 8 => omega
   | n + 9 => rfl
  omega
theorem fname_len : ∀ k, k < 9 → (fname k).length ≤ 9 := by decide
theorem fnm_len {s : ByteArray} (h : 0 ≤ fnArity (fnOf s)) : s.data.toList.length ≤ 9 := by
 obtain ⟨k, hk, -, e⟩ := fnm_of h
 rw [e]; exact fname_len k hk
theorem fnArity_le (k : Nat) : fnArity k ≤ 2 := by rcases fnArity_range k with h | h | h <;> omega
theorem varB_le {s : ByteArray} (h : varB s = true) : s.size ≤ 16 := (of_decide_eq_true h).2.1
theorem relB_name {s : ByteArray} (h : relB s = true) : nameB s = true := by
 rw [relB, Bool.and_eq_true] at h; exact h.1
theorem relB_le {s : ByteArray} (h : relB s = true) : s.size ≤ 16 := (nameB_le (relB_name h)).2
theorem valB_right {x : V} (h : valB x = true) : rightV 4 x = true := by
 rw [valB, Bool.and_eq_true] at h; exact h.1
theorem printB_le (x : V) : (printB x).length ≤ 10240000 := by
 unfold printB
 split
 ·rename_i h; have := (prV_le 4 x h).1; omega
 ·simp
theorem opB_text {s : ByteArray} (h : opB s = true) : s.data.toList = [43] ∨ s.data.toList = [45] ∨ s.data.toList = [42] := by
 rw [opB, Lib.toList_data] at h
 simp only [Bool.or_eq_true, beq_iff_eq] at h
 exact h
theorem cmpB_text {s : ByteArray} (h : cmpB s = true) : s.data.toList = [61, 61] ∨ s.data.toList = [33, 61] ∨ s.data.toList = [60] ∨ s.data.toList = [60, 61] ∨ s.data.toList = [62] ∨ s.data.toList = [62, 61] := by
 rw [cmpB, Lib.toList_data] at h
 simp only [Bool.or_eq_true, beq_iff_eq] at h
 exact h
theorem aggName_text {s : ByteArray} (h : aggNameB s = true) : s.data.toList = [109, 105, 110] ∨ s.data.toList = [109, 97, 120] ∨ s.data.toList = [99, 111, 117, 110, 116] := by
 rw [aggNameB, Lib.toList_data] at h
 simp only [Bool.or_eq_true, beq_iff_eq] at h
 exact h
theorem sepL_le {sep : List UInt8} {c : Nat} (b : Nat) (hs : sep.length ≤ c) : ∀ (l : List (List UInt8)), (∀ x ∈ l, x.length ≤ b) → (sepL sep l).length ≤ l.length * (b + c)
 | [], _ => by simp [sepL]
 | x :: l, h => by
  have key : ∀ m : List (List UInt8), (∀ x ∈ m, x.length ≤ b) → ((m.map fun y => sep ++ y).flatten).length ≤ m.length * (b + c) := by
   intro m
   induction m with
   | nil => intro _; simp
   | cons y m ih =>
    intro hm
    have h1 := ih fun z hz => hm z (by simp [hz])
    have h2 := hm y (by simp)
    simp only [List.map_cons, List.flatten_cons, List.length_append, List.length_cons]
    rw [Nat.succ_mul]; omega
  have h1 := key l fun z hz => h z (by simp [hz])
  have h2 := h x (by simp)
  simp only [sepL, List.length_append, List.length_cons]
  rw [Nat.succ_mul]; omega
theorem showM_le : ∀ (d : Nat) (x : Tm), rightM d x = true → (showM x).length + 16 ≤ 10240016 * 2 ^ d
 | 0, x, h => by rw [rightM_zero] at h; cases h
 | d + 1, .mk k s x l, h => by
  have hp : 1 ≤ 2 ^ d := Nat.one_le_pow _ _ (by omega)
  have hp2 : 2 ^ (d + 1) = 2 * 2 ^ d := by rw [Nat.pow_succ]; omega
  rw [rightM_succ] at h
  rw [showM_mk]
  by_cases e1 : k = 1
  ·rw [if_pos e1] at h ⊢
   simp only [Bool.and_eq_true] at h
   have := varB_le h.1
   rw [data_length]; omega
  rw [if_neg e1] at h ⊢
  by_cases e2 : k = 2
  ·rw [if_pos e2] at h ⊢
   have := printB_le x
   omega
  rw [if_neg e2] at h ⊢
  by_cases e3 : k = 3
  ·rw [if_pos e3] at h ⊢
   simp only [Bool.and_eq_true] at h
   obtain ⟨g1, g2, g3⟩ := listB_bounds h.2
   have h0 : 0 ≤ fnArity (fnOf s) := by omega
   have h1 := fnm_len h0
   have h2 := fnArity_le (fnOf s)
   have h3 := sepL_le (sep := [44]) (c := 1) (10240016 * 2 ^ d - 16) (by simp) (l.map showM) (fun y hy => by
    obtain ⟨z, hz, rfl⟩ := List.mem_map.1 hy
    have := showM_le d z (g3 z hz)
    omega)
   rw [List.length_map] at h3
   have h4 : l.length * (10240016 * 2 ^ d - 16 + 1) ≤ 2 * (10240016 * 2 ^ d - 16 + 1) := Nat.mul_le_mul_right _ (by omega)
   simp only [List.length_append, List.length_cons, List.length_nil]
   omega
  rw [if_neg e3] at h ⊢
  by_cases e4 : k = 4
  ·rw [if_pos e4] at h ⊢
   simp only [Bool.and_eq_true] at h
   obtain ⟨g1, g2, g3⟩ := listB_bounds h.2.2
   have h1 : s.data.toList.length ≤ 1 := by
    rcases opB_text h.1 with e | e | e <;> rw [e] <;> simp
   have h3 := sepL_le (sep := s.data.toList) (c := 1) (10240016 * 2 ^ d - 16) h1 (l.map showM) (fun y hy => by
    obtain ⟨z, hz, rfl⟩ := List.mem_map.1 hy
    have := showM_le d z (g3 z hz)
    omega)
   rw [List.length_map] at h3
   have h4 : l.length * (10240016 * 2 ^ d - 16 + 1) ≤ 2 * (10240016 * 2 ^ d - 16 + 1) := Nat.mul_le_mul_right _ (by omega)
   simp only [List.length_append, List.length_cons, List.length_nil]
   omega
  ·rw [if_neg e4] at h; cases h
theorem showM_le8 {x : Tm} (h : rightM 8 x = true) : (showM x).length ≤ 2621444080 := by
 have := showM_le 8 x h
 omega
theorem showTs_le {l : List Tm} (h : ∀ x ∈ l, rightM 8 x = true) : ∀ y ∈ l.map showM, y.length ≤ 2621444080 := fun y hy => by
 obtain ⟨z, hz, rfl⟩ := List.mem_map.1 hy
 exact showM_le8 (h z hz)
theorem showAtom_le {s : ByteArray} {l : List (List UInt8)} {b : Nat} (hs : s.size ≤ 16) (hl : l.length ≤ 8) (h : ∀ y ∈ l, y.length ≤ b) : (showAtom s l).length ≤ 8 * (b + 1) + 19 := by
 have h1 := sepL_le (sep := [44]) (c := 1) b (by simp) l h
 have h2 : l.length * (b + 1) ≤ 8 * (b + 1) := Nat.mul_le_mul_right _ hl
 simp only [showAtom, List.length_append, List.length_cons, List.length_nil, data_length]
 omega
theorem showLi_le {x : Li} (h : liB x = true) : (showLi x).length ≤ 21000000000 := by
 rw [liB] at h
 rw [showLi]
 by_cases e1 : x.kind = 1
 ·rw [if_pos e1] at h ⊢
  rw [atomB] at h
  simp only [Bool.and_eq_true] at h
  obtain ⟨g1, g2, g3⟩ := listB_bounds h.2.1
  have := showAtom_le (relB_le h.1) (by rw [List.length_map]; omega) (showTs_le g3)
  omega
 rw [if_neg e1] at h ⊢
 by_cases e2 : x.kind = 2
 ·rw [if_pos e2] at h ⊢
  rw [atomB] at h
  simp only [Bool.and_eq_true] at h
  obtain ⟨g1, g2, g3⟩ := listB_bounds h.2.1
  have := showAtom_le (relB_le h.1) (by rw [List.length_map]; omega) (showTs_le g3)
  simp only [List.length_cons]
  omega
 rw [if_neg e2] at h ⊢
 by_cases e3 : x.kind = 3
 ·rw [if_pos e3] at h ⊢
  simp only [Bool.and_eq_true] at h
  obtain ⟨g1, g2, g3⟩ := listB_bounds h.2
  have hs : (32 :: (x.name.data.toList ++ [32])).length ≤ 4 := by
   rcases cmpB_text h.1 with e | e | e | e | e | e <;> rw [e] <;> simp
  have h1 := sepL_le 2621444080 hs _ (showTs_le g3)
  rw [List.length_map] at h1
  have h2 : x.args.length * (2621444080 + 4) ≤ 2 * (2621444080 + 4) := Nat.mul_le_mul_right _ (by omega)
  omega
 rw [if_neg e3] at h ⊢
 by_cases e4 : x.kind = 4
 ·rw [if_pos e4] at h ⊢
  simp only [Bool.and_eq_true] at h
  obtain ⟨g1, g2, g3⟩ := listB_bounds h.2
  obtain ⟨t, ht⟩ : ∃ t, x.args = [t] := List.length_eq_one_iff.1 (by omega)
  have h1 := varB_le h.1
  have h2 := showM_le8 (g3 t (by rw [ht]; simp))
  rw [ht]
  simp only [List.map_cons, List.head?_cons, Option.getD_some, List.length_append, List.length_cons, data_length]
  omega
 ·rw [if_neg e4]; simp
theorem aggAt_size {x : Ru} (h : aggB x = true) (i : Nat) (t : List UInt8) : (aggAt x i t).length ≤ t.length + 7 := by
 unfold aggAt
 split
 ·omega
 ·rename_i hn
  rw [aggB, if_neg (fun e => hn (.inl e))] at h
  simp only [Bool.and_eq_true] at h
  have : x.agg.data.toList.length ≤ 5 := by rcases aggName_text h.1 with e | e | e <;> rw [e] <;> simp
  simp only [List.length_append, List.length_cons, List.length_nil]
  omega
theorem showRu_le {x : Ru} (h : ruB x = true) : (showRu x).length ≤ 190000000000 := by
 rw [ruB, atomB] at h
 simp only [Bool.and_eq_true] at h
 obtain ⟨h0, ⟨h1, h2, -⟩, h3, h4⟩ := h
 obtain ⟨g1, g2, g3⟩ := listB_bounds h2
 obtain ⟨g4, g5, g6⟩ := listB_bounds h4
 have a1 := showAtom_le (b := 2621444087) (relB_le h1) (l := (x.args.map showM).mapIdx fun i t => aggAt x i t) (by rw [List.length_mapIdx, List.length_map]; omega) (fun y hy => by
  obtain ⟨i, hi, rfl⟩ := List.mem_mapIdx.1 hy
  have := aggAt_size h3 i (x.args.map showM)[i]
  have := showTs_le g3 _ (List.getElem_mem hi)
  omega)
 have a2 := sepL_le (sep := [44, 32]) (c := 2) 21000000000 (by simp) (x.body.map showLi) (fun y hy => by
  obtain ⟨z, hz, rfl⟩ := List.mem_map.1 hy
  exact showLi_le (g6 z hz))
 rw [List.length_map] at a2
 have a3 : x.body.length * (21000000000 + 2) ≤ 8 * (21000000000 + 2) := Nat.mul_le_mul_right _ (by omega)
 have a4 := relB_le h0
 simp only [showRu, showHead, List.length_append, List.length_cons, List.length_nil, data_length]
 omega
theorem showFa_le {x : Fa} (h : faB x = true) : (showFa x).length ≤ 90000000 := by
 rw [faB] at h
 simp only [Bool.and_eq_true] at h
 obtain ⟨g1, g2, -⟩ := listB_bounds h.2.1
 have a1 := showAtom_le (b := 10240000) (relB_le h.1) (l := x.args.map printB) (by rw [List.length_map]; omega) (fun y hy => by
  obtain ⟨z, _, rfl⟩ := List.mem_map.1 hy
  exact printB_le z)
 simp only [showFa, List.length_append, List.length_cons, List.length_nil]
 omega
theorem showDe_le {x : De} (h : deB x = true) : (showDe x).length ≤ 60 := by
 rw [deB] at h
 simp only [Bool.and_eq_true, decide_eq_true_eq] at h
 have h1 := relB_le h.1
 have h2 := itoa_le x.arity (by omega)
 simp only [showDe, List.length_append, List.length_cons, List.length_nil, data_length]
 omega
theorem linesOf_le (b : Nat) : ∀ (l : List (List UInt8)), (∀ y ∈ l, y.length ≤ b) → (linesOf l).length ≤ l.length * (b + 1)
 | [], _ => by simp [linesOf]
 | y :: l, h => by
  have h1 := linesOf_le b l fun z hz => h z (by simp [hz])
  have h2 := h y (by simp)
  simp only [linesOf] at h1
  simp only [linesOf, List.map_cons, List.flatten_cons, List.length_append, List.length_cons, List.length_nil]
  rw [Nat.succ_mul]; omega
theorem showPr_le {x : Pr} (h : prB x = true) : (showPr x).length ≤ 13000000000000 := by
 rw [prB] at h
 simp only [Bool.and_eq_true] at h
 obtain ⟨-, g1, g2⟩ := listB_bounds h.1
 obtain ⟨-, g3, g4⟩ := listB_bounds h.2.1
 obtain ⟨-, g5, g6⟩ := listB_bounds h.2.2
 have a1 := linesOf_le 60 (x.decls.map showDe) fun y hy => by
  obtain ⟨z, hz, rfl⟩ := List.mem_map.1 hy
  exact showDe_le (g2 z hz)
 have a2 := linesOf_le 90000000 (x.facts.map showFa) fun y hy => by
  obtain ⟨z, hz, rfl⟩ := List.mem_map.1 hy
  exact showFa_le (g4 z hz)
 have a3 := linesOf_le 190000000000 (x.rules.map showRu) fun y hy => by
  obtain ⟨z, hz, rfl⟩ := List.mem_map.1 hy
  exact showRu_le (g6 z hz)
 rw [List.length_map] at a1 a2 a3
 have b1 : x.decls.length * (60 + 1) ≤ 64 * (60 + 1) := Nat.mul_le_mul_right _ (by omega)
 have b2 : x.facts.length * (90000000 + 1) ≤ 64 * (90000000 + 1) := Nat.mul_le_mul_right _ (by omega)
 have b3 : x.rules.length * (190000000000 + 1) ≤ 64 * (190000000000 + 1) := Nat.mul_le_mul_right _ (by omega)
 simp only [showPr, List.length_append]
 omega
theorem showM_fits {x : Tm} (h : rightM 8 x = true) : (showM x).length ≤ 140737488355328 := Nat.le_trans (showM_le8 h) (by omega)
theorem showLi_fits {x : Li} (h : liB x = true) : (showLi x).length ≤ 140737488355328 := Nat.le_trans (showLi_le h) (by omega)
theorem showRu_fits {x : Ru} (h : ruB x = true) : (showRu x).length ≤ 140737488355328 := Nat.le_trans (showRu_le h) (by omega)
theorem showFa_fits {x : Fa} (h : faB x = true) : (showFa x).length ≤ 140737488355328 := Nat.le_trans (showFa_le h) (by omega)
theorem showPr_fits {x : Pr} (h : prB x = true) : (showPr x).length ≤ 140737488355328 := Nat.le_trans (showPr_le h) (by omega)
end Go.Proofs.YtgjemmdhamkngaaGreatDoor
namespace Go.Proofs.YtgjemmdhamkngaaGreatDoor
open Go.RowKit
theorem bytes_ext {s t : ByteArray} (h : s.toList = t.toList) : s = t := by
 rw [Lib.toList_data, Lib.toList_data] at h
 cases s with
 | mk a => cases t with
  | mk b => simp at h; rw [h]
theorem none_of {s : ByteArray} (h : s.toList.isEmpty = true) : s = ⟨#[]⟩ := by
 refine bytes_ext ?_
 have h0 : s.toList = [] := by simpa using h
 rw [h0, Lib.toList_data]
end Go.Proofs.YtgjemmdhamkngaaGreatDoor
