/-
  When terms, literals, rules, facts and programs may be, as plain answers about their trees.
-/
import Derived.Test.YtgjemmdhamkngaaGreatDoorJ04
import Derived.Test.YtgjemmdhamkngaaGreatDoorJ02
import Derived.Test.YtgjemmdhamkngaaGreatDoorJ03
namespace Go.Proofs.YtgjemmdhamkngaaGreatDoor
open Go.RowKit

/-- Nothing in a value. -/
def noneB (x : V) : Bool := x.kind == 0 && (x.num == 0 && (x.text.toList.isEmpty && x.list.isEmpty))
/-- A function's name. -/
def fnB (s : ByteArray) : Bool := decide (0 ≤ fnArity (fnOf s))
/-- 'materialize'. -/
def declB (s : ByteArray) : Bool := s.toList == [109, 97, 116, 101, 114, 105, 97, 108, 105, 122, 101]
def relB (s : ByteArray) : Bool := nameB s && (!fnB s && !declB s)
def valB (x : V) : Bool := rightV 4 x && !(x.kind == 3 && fnB x.text)
/-- '+', '-' or '*'. -/
def opB (s : ByteArray) : Bool := s.toList == [43] || (s.toList == [45] || s.toList == [42])
/-- '==', '!=', '<', '<=', '>' or '>='. -/
def cmpB (s : ByteArray) : Bool := s.toList == [61, 61] || (s.toList == [33, 61] || (s.toList == [60] || (s.toList == [60, 61] || (s.toList == [62] || s.toList == [62, 61]))))
/-- So many elements, each right. -/
def listB {α : Type} (least most : Int) (R : α → Bool) (l : List α) : Bool := decide (least ≤ (l.length : Int)) && (decide ((l.length : Int) ≤ most) && l.all R)

/-- Is a term right, so deep at most? -/
def rightM : Nat → Tm → Bool
  | 0, _ => false
  | d + 1, .mk k s x l =>
    if k = 1 then varB s && (noneB x && l.isEmpty)
    else if k = 2 then s.toList.isEmpty && (valB x && l.isEmpty)
    else if k = 3 then noneB x && listB (fnArity (fnOf s)) (fnArity (fnOf s)) (rightM d) l
    else if k = 4 then opB s && (noneB x && listB 2 2 (rightM d) l)
    else false
/-- May it tell at which node a tuple is? -/
def placeB (t : Tm) : Bool := t.kind == 1 || (t.kind == 2 && t.val.kind == 3)
def headB (l : List Tm) : Bool := match l with
  | [] => false
  | t :: _ => placeB t
def atomB (s : ByteArray) (l : List Tm) : Bool := relB s && (listB 1 8 (rightM 8) l && headB l)
/-- 'min', 'max' or 'count'. -/
def aggNameB (s : ByteArray) : Bool := s.toList == [109, 105, 110] || (s.toList == [109, 97, 120] || s.toList == [99, 111, 117, 110, 116])
def kindAt (l : List Tm) (i : Int) : Int := match l[i.toNat]? with
  | some t => t.kind
  | none => 0
def aggB (r : Ru) : Bool :=
  if r.agg.toList.isEmpty = true then r.at' == 0
  else aggNameB r.agg && (decide (1 ≤ r.at') && (decide (r.at' < (r.args.length : Int)) && kindAt r.args r.at' == 1))
def liB (x : Li) : Bool :=
  if x.kind = 1 then atomB x.name x.args
  else if x.kind = 2 then atomB x.name x.args
  else if x.kind = 3 then cmpB x.name && listB 2 2 (rightM 8) x.args
  else if x.kind = 4 then varB x.name && listB 1 1 (rightM 8) x.args
  else false
def ruB (r : Ru) : Bool := relB r.label && (atomB r.head r.args && (aggB r && listB 1 8 liB r.body))
def deB (d : De) : Bool := relB d.name && (decide (1 ≤ d.arity) && decide (d.arity ≤ 8))
def headV (l : List V) : Bool := match l with
  | [] => false
  | x :: _ => x.kind == 3
def faB (t : Fa) : Bool := relB t.name && (listB 1 8 (rightV 4) t.args && headV t.args)
def prB (p : Pr) : Bool := listB 0 64 deB p.decls && (listB 0 64 faB p.facts && listB 0 64 ruB p.rules)

theorem listB_few {α : Type} {least most : Int} {R : α → Bool} {l : List α} (h : (l.length : Int) < least) : listB least most R l = false := by
  unfold listB; rw [decide_eq_false (by omega)]; rfl
theorem listB_many {α : Type} {least most : Int} {R : α → Bool} {l : List α} (h : most < (l.length : Int)) : listB least most R l = false := by
  unfold listB; rw [decide_eq_false (p := (l.length : Int) ≤ most) (by omega)]; simp
theorem listB_some {α : Type} {least most : Int} {R : α → Bool} {l : List α} (h1 : least ≤ (l.length : Int)) (h2 : (l.length : Int) ≤ most) : listB least most R l = l.all R := by
  unfold listB; rw [decide_eq_true h1, decide_eq_true h2]; rfl
theorem listB_bounds {α : Type} {least most : Int} {R : α → Bool} {l : List α} (h : listB least most R l = true) : least ≤ (l.length : Int) ∧ (l.length : Int) ≤ most ∧ ∀ x ∈ l, R x = true := by
  unfold listB at h
  simp only [Bool.and_eq_true, decide_eq_true_eq, List.all_eq_true] at h
  exact ⟨h.1, h.2.1, h.2.2⟩
theorem all_none {α : Type} {R : α → Bool} {l : List α} {k : Nat} (hk : k < l.length) (h : R l[k] = false) : l.all R = false := by
  cases e : l.all R with
  | false => rfl
  | true =>
    rw [List.all_eq_true] at e
    rw [e _ (List.getElem_mem hk)] at h
    cases h
theorem rightM_zero (t : Tm) : rightM 0 t = false := by rw [rightM]
theorem rightM_succ (d : Nat) (k : Int) (s : ByteArray) (x : V) (l : List Tm) : rightM (d + 1) (.mk k s x l) =
    if k = 1 then varB s && (noneB x && l.isEmpty)
    else if k = 2 then s.toList.isEmpty && (valB x && l.isEmpty)
    else if k = 3 then noneB x && listB (fnArity (fnOf s)) (fnArity (fnOf s)) (rightM d) l
    else if k = 4 then opB s && (noneB x && listB 2 2 (rightM d) l)
    else false := by rw [rightM]

end Go.Proofs.YtgjemmdhamkngaaGreatDoor

/-
  The texts of terms, literals, rules, facts and programs, as bytes.
-/
namespace Go.Proofs.YtgjemmdhamkngaaGreatDoor
open Go.RowKit

/-- Texts, with another one between. -/
def sepL (sep : List UInt8) : List (List UInt8) → List UInt8
  | [] => []
  | x :: l => x ++ (l.map fun y => sep ++ y).flatten
theorem sepL_snoc (sep : List UInt8) (l : List (List UInt8)) (x : List UInt8) : sepL sep (l ++ [x]) = sepL sep l ++ ((if l = [] then [] else sep) ++ x) := by
  cases l with
  | nil => simp [sepL]
  | cons y l => simp [sepL]
theorem sepL_take_le (sep : List UInt8) : ∀ (l : List (List UInt8)) (k : Nat), (sepL sep (l.take k)).length ≤ (sepL sep l).length
  | [], k => by simp
  | x :: l, 0 => by simp [sepL]
  | x :: l, k + 1 => by
    have key : ∀ (m : List (List UInt8)) (j : Nat), (((m.take j).map fun y => sep ++ y).flatten).length ≤ ((m.map fun y => sep ++ y).flatten).length := by
      intro m
      induction m with
      | nil => intro j; simp
      | cons y m ih =>
        intro j
        cases j with
        | zero => simp
        | succ j => have := ih j; simp only [List.take_succ_cons, List.map_cons, List.flatten_cons, List.length_append]; omega
    have := key l k
    simp only [List.take_succ_cons, sepL, List.length_append]; omega

/-- A term's text. -/
def showM : Tm → List UInt8
  | .mk k s x l => if k = 1 then s.data.toList
    else if k = 2 then printB x
    else if k = 3 then s.data.toList ++ (40 :: (sepL [44] (l.attach.map fun y => showM y.1) ++ [41]))
    else if k = 4 then 40 :: (sepL s.data.toList (l.attach.map fun y => showM y.1) ++ [41])
    else []
  termination_by t => SizeOf.sizeOf t
  decreasing_by
    all_goals
      have := List.sizeOf_lt_of_mem y.2
      simp only [Tm.mk.sizeOf_spec]
      omega
theorem showM_mk (k : Int) (s : ByteArray) (x : V) (l : List Tm) : showM (.mk k s x l) = if k = 1 then s.data.toList
    else if k = 2 then printB x
    else if k = 3 then s.data.toList ++ (40 :: (sepL [44] (l.map showM) ++ [41]))
    else if k = 4 then 40 :: (sepL s.data.toList (l.map showM) ++ [41])
    else [] := by
  rw [showM]
  have e : (l.attach.map fun y => showM y.1) = l.map showM := by simp
  rw [e]
/-- An atom's text, of its arguments' texts. -/
def showAtom (s : ByteArray) (l : List (List UInt8)) : List UInt8 := s.data.toList ++ (40 :: 64 :: (sepL [44] l ++ [41]))
def showLi (x : Li) : List UInt8 :=
  if x.kind = 1 then showAtom x.name (x.args.map showM)
  else if x.kind = 2 then 33 :: showAtom x.name (x.args.map showM)
  else if x.kind = 3 then sepL (32 :: (x.name.data.toList ++ [32])) (x.args.map showM)
  else if x.kind = 4 then x.name.data.toList ++ (32 :: 58 :: 61 :: 32 :: ((x.args.map showM).head?.getD []))
  else []
/-- A head's arguments: the one that the aggregate is of stands within it. -/
def aggAt (x : Ru) (i : Nat) (t : List UInt8) : List UInt8 := if x.agg.toList.isEmpty = true ∨ (i : Int) ≠ x.at' then t else x.agg.data.toList ++ (60 :: (t ++ [62]))
def showHead (x : Ru) : List UInt8 := showAtom x.head ((x.args.map showM).mapIdx fun i t => aggAt x i t)
def showRu (x : Ru) : List UInt8 := x.label.data.toList ++ (32 :: (showHead x ++ ([32, 58, 45, 32] ++ (sepL [44, 32] (x.body.map showLi) ++ [46]))))
def showFa (x : Fa) : List UInt8 := showAtom x.name (x.args.map printB) ++ [46]
def showDe (x : De) : List UInt8 := [109, 97, 116, 101, 114, 105, 97, 108, 105, 122, 101] ++ (40 :: (x.name.data.toList ++ (44 :: (Lib.itoa x.arity ++ [41, 46]))))
def linesOf (l : List (List UInt8)) : List UInt8 := (l.map fun t => t ++ [10]).flatten
def showPr (x : Pr) : List UInt8 := linesOf (x.decls.map showDe) ++ (linesOf (x.facts.map showFa) ++ linesOf (x.rules.map showRu))

end Go.Proofs.YtgjemmdhamkngaaGreatDoor

/-
  How long the texts of right terms, literals, rules, facts and programs may be.
-/
namespace Go.Proofs.YtgjemmdhamkngaaGreatDoor
open Go.RowKit

theorem fnm_text {s : ByteArray} {k : Nat} (hk : k < 9) (h : fnOf s = k) : s.data.toList = fname k := by
  rw [← Lib.toList_data]
  unfold fnOf at h
  split at h
  · subst h; rename_i e; simpa [fname] using e
  split at h
  · subst h; rename_i e; simpa [fname] using e
  split at h
  · subst h; rename_i e; simpa [fname] using e
  split at h
  · subst h; rename_i e; simpa [fname] using e
  split at h
  · subst h; rename_i e; simpa [fname] using e
  split at h
  · subst h; rename_i e; simpa [fname] using e
  split at h
  · subst h; rename_i e; simpa [fname] using e
  split at h
  · subst h; rename_i e; simpa [fname] using e
  split at h
  · subst h; rename_i e; simpa [fname] using e
  · omega
theorem fnm_of {s : ByteArray} (h : 0 ≤ fnArity (fnOf s)) : ∃ k, k < 9 ∧ fnOf s = k ∧ s.data.toList = fname k := by
  by_cases hk : fnOf s < 9
  · exact ⟨fnOf s, hk, rfl, fnm_text hk rfl⟩
  · have e : fnArity (fnOf s) = -1 := by
      match hf : fnOf s with
      | 0 | 1 | 2 | 3 | 4 | 5 | 6 | 7 | 8 => omega
      | n + 9 => rfl
    omega
theorem fname_len : ∀ k, k < 9 → (fname k).length ≤ 9 := by decide
theorem fnm_len {s : ByteArray} (h : 0 ≤ fnArity (fnOf s)) : s.data.toList.length ≤ 9 := by
  obtain ⟨k, hk, -, e⟩ := fnm_of h
  rw [e]; exact fname_len k hk
theorem fnArity_le (k : Nat) : fnArity k ≤ 2 := by rcases fnArity_range k with h | h | h <;> omega

theorem varB_le {s : ByteArray} (h : varB s = true) : s.size ≤ 16 := (of_decide_eq_true h).2.1
theorem relB_name {s : ByteArray} (h : relB s = true) : nameB s = true := by
  rw [relB, Bool.and_eq_true] at h; exact h.1
theorem relB_le {s : ByteArray} (h : relB s = true) : s.size ≤ 16 := (nameB_le (relB_name h)).2
theorem valB_right {x : V} (h : valB x = true) : rightV 4 x = true := by
  rw [valB, Bool.and_eq_true] at h; exact h.1
theorem printB_le (x : V) : (printB x).length ≤ 10240000 := by
  unfold printB
  split
  · rename_i h; have := (prV_le 4 x h).1; omega
  · simp
theorem one_of {s : ByteArray} {c : UInt8} (h : (s.toList == [c]) = true) : s.data.toList = [c] := by
  rw [Lib.toList_data] at h; exact eq_of_beq h
theorem opB_text {s : ByteArray} (h : opB s = true) : s.data.toList = [43] ∨ s.data.toList = [45] ∨ s.data.toList = [42] := by
  rw [opB, Lib.toList_data] at h
  simp only [Bool.or_eq_true, beq_iff_eq] at h
  exact h
theorem cmpB_text {s : ByteArray} (h : cmpB s = true) : s.data.toList = [61, 61] ∨ s.data.toList = [33, 61] ∨ s.data.toList = [60] ∨ s.data.toList = [60, 61] ∨ s.data.toList = [62] ∨ s.data.toList = [62, 61] := by
  rw [cmpB, Lib.toList_data] at h
  simp only [Bool.or_eq_true, beq_iff_eq] at h
  exact h
theorem aggName_text {s : ByteArray} (h : aggNameB s = true) : s.data.toList = [109, 105, 110] ∨ s.data.toList = [109, 97, 120] ∨ s.data.toList = [99, 111, 117, 110, 116] := by
  rw [aggNameB, Lib.toList_data] at h
  simp only [Bool.or_eq_true, beq_iff_eq] at h
  exact h

theorem sepL_le {sep : List UInt8} {c : Nat} (b : Nat) (hs : sep.length ≤ c) : ∀ (l : List (List UInt8)), (∀ x ∈ l, x.length ≤ b) → (sepL sep l).length ≤ l.length * (b + c)
  | [], _ => by simp [sepL]
  | x :: l, h => by
    have key : ∀ m : List (List UInt8), (∀ x ∈ m, x.length ≤ b) → ((m.map fun y => sep ++ y).flatten).length ≤ m.length * (b + c) := by
      intro m
      induction m with
      | nil => intro _; simp
      | cons y m ih =>
        intro hm
        have h1 := ih fun z hz => hm z (by simp [hz])
        have h2 := hm y (by simp)
        simp only [List.map_cons, List.flatten_cons, List.length_append, List.length_cons]
        rw [Nat.succ_mul]; omega
    have h1 := key l fun z hz => h z (by simp [hz])
    have h2 := h x (by simp)
    simp only [sepL, List.length_append, List.length_cons]
    rw [Nat.succ_mul]; omega

theorem showM_le : ∀ (d : Nat) (x : Tm), rightM d x = true → (showM x).length + 16 ≤ 10240016 * 2 ^ d
  | 0, x, h => by rw [rightM_zero] at h; cases h
  | d + 1, .mk k s x l, h => by
    have hp : 1 ≤ 2 ^ d := Nat.one_le_pow _ _ (by omega)
    have hp2 : 2 ^ (d + 1) = 2 * 2 ^ d := by rw [Nat.pow_succ]; omega
    rw [rightM_succ] at h
    rw [showM_mk]
    by_cases e1 : k = 1
    · rw [if_pos e1] at h ⊢
      simp only [Bool.and_eq_true] at h
      have := varB_le h.1
      rw [data_length]; omega
    rw [if_neg e1] at h ⊢
    by_cases e2 : k = 2
    · rw [if_pos e2] at h ⊢
      have := printB_le x
      omega
    rw [if_neg e2] at h ⊢
    by_cases e3 : k = 3
    · rw [if_pos e3] at h ⊢
      simp only [Bool.and_eq_true] at h
      obtain ⟨g1, g2, g3⟩ := listB_bounds h.2
      have h0 : 0 ≤ fnArity (fnOf s) := by omega
      have h1 := fnm_len h0
      have h2 := fnArity_le (fnOf s)
      have h3 := sepL_le (sep := [44]) (c := 1) (10240016 * 2 ^ d - 16) (by simp) (l.map showM) (fun y hy => by
        obtain ⟨z, hz, rfl⟩ := List.mem_map.1 hy
        have := showM_le d z (g3 z hz)
        omega)
      rw [List.length_map] at h3
      have h4 : l.length * (10240016 * 2 ^ d - 16 + 1) ≤ 2 * (10240016 * 2 ^ d - 16 + 1) := Nat.mul_le_mul_right _ (by omega)
      simp only [List.length_append, List.length_cons, List.length_nil]
      omega
    rw [if_neg e3] at h ⊢
    by_cases e4 : k = 4
    · rw [if_pos e4] at h ⊢
      simp only [Bool.and_eq_true] at h
      obtain ⟨g1, g2, g3⟩ := listB_bounds h.2.2
      have h1 : s.data.toList.length ≤ 1 := by
        rcases opB_text h.1 with e | e | e <;> rw [e] <;> simp
      have h3 := sepL_le (sep := s.data.toList) (c := 1) (10240016 * 2 ^ d - 16) h1 (l.map showM) (fun y hy => by
        obtain ⟨z, hz, rfl⟩ := List.mem_map.1 hy
        have := showM_le d z (g3 z hz)
        omega)
      rw [List.length_map] at h3
      have h4 : l.length * (10240016 * 2 ^ d - 16 + 1) ≤ 2 * (10240016 * 2 ^ d - 16 + 1) := Nat.mul_le_mul_right _ (by omega)
      simp only [List.length_append, List.length_cons, List.length_nil]
      omega
    · rw [if_neg e4] at h; cases h
theorem showM_le8 {x : Tm} (h : rightM 8 x = true) : (showM x).length ≤ 2621444080 := by
  have := showM_le 8 x h
  omega
theorem showTs_le {l : List Tm} (h : ∀ x ∈ l, rightM 8 x = true) : ∀ y ∈ l.map showM, y.length ≤ 2621444080 := fun y hy => by
  obtain ⟨z, hz, rfl⟩ := List.mem_map.1 hy
  exact showM_le8 (h z hz)
theorem showAtom_le {s : ByteArray} {l : List (List UInt8)} {b : Nat} (hs : s.size ≤ 16) (hl : l.length ≤ 8) (h : ∀ y ∈ l, y.length ≤ b) : (showAtom s l).length ≤ 8 * (b + 1) + 19 := by
  have h1 := sepL_le (sep := [44]) (c := 1) b (by simp) l h
  have h2 : l.length * (b + 1) ≤ 8 * (b + 1) := Nat.mul_le_mul_right _ hl
  simp only [showAtom, List.length_append, List.length_cons, List.length_nil, data_length]
  omega
theorem showLi_le {x : Li} (h : liB x = true) : (showLi x).length ≤ 21000000000 := by
  rw [liB] at h
  rw [showLi]
  by_cases e1 : x.kind = 1
  · rw [if_pos e1] at h ⊢
    rw [atomB] at h
    simp only [Bool.and_eq_true] at h
    obtain ⟨g1, g2, g3⟩ := listB_bounds h.2.1
    have := showAtom_le (relB_le h.1) (by rw [List.length_map]; omega) (showTs_le g3)
    omega
  rw [if_neg e1] at h ⊢
  by_cases e2 : x.kind = 2
  · rw [if_pos e2] at h ⊢
    rw [atomB] at h
    simp only [Bool.and_eq_true] at h
    obtain ⟨g1, g2, g3⟩ := listB_bounds h.2.1
    have := showAtom_le (relB_le h.1) (by rw [List.length_map]; omega) (showTs_le g3)
    simp only [List.length_cons]
    omega
  rw [if_neg e2] at h ⊢
  by_cases e3 : x.kind = 3
  · rw [if_pos e3] at h ⊢
    simp only [Bool.and_eq_true] at h
    obtain ⟨g1, g2, g3⟩ := listB_bounds h.2
    have hs : (32 :: (x.name.data.toList ++ [32])).length ≤ 4 := by
      rcases cmpB_text h.1 with e | e | e | e | e | e <;> rw [e] <;> simp
    have h1 := sepL_le 2621444080 hs _ (showTs_le g3)
    rw [List.length_map] at h1
    have h2 : x.args.length * (2621444080 + 4) ≤ 2 * (2621444080 + 4) := Nat.mul_le_mul_right _ (by omega)
    omega
  rw [if_neg e3] at h ⊢
  by_cases e4 : x.kind = 4
  · rw [if_pos e4] at h ⊢
    simp only [Bool.and_eq_true] at h
    obtain ⟨g1, g2, g3⟩ := listB_bounds h.2
    obtain ⟨t, ht⟩ : ∃ t, x.args = [t] := List.length_eq_one_iff.1 (by omega)
    have h1 := varB_le h.1
    have h2 := showM_le8 (g3 t (by rw [ht]; simp))
    rw [ht]
    simp only [List.map_cons, List.head?_cons, Option.getD_some, List.length_append, List.length_cons, data_length]
    omega
  · rw [if_neg e4]; simp
theorem aggAt_size {x : Ru} (h : aggB x = true) (i : Nat) (t : List UInt8) : (aggAt x i t).length ≤ t.length + 7 := by
  unfold aggAt
  split
  · omega
  · rename_i hn
    rw [aggB, if_neg (fun e => hn (.inl e))] at h
    simp only [Bool.and_eq_true] at h
    have : x.agg.data.toList.length ≤ 5 := by rcases aggName_text h.1 with e | e | e <;> rw [e] <;> simp
    simp only [List.length_append, List.length_cons, List.length_nil]
    omega
theorem showRu_le {x : Ru} (h : ruB x = true) : (showRu x).length ≤ 190000000000 := by
  rw [ruB, atomB] at h
  simp only [Bool.and_eq_true] at h
  obtain ⟨h0, ⟨h1, h2, -⟩, h3, h4⟩ := h
  obtain ⟨g1, g2, g3⟩ := listB_bounds h2
  obtain ⟨g4, g5, g6⟩ := listB_bounds h4
  have a1 := showAtom_le (b := 2621444087) (relB_le h1) (l := (x.args.map showM).mapIdx fun i t => aggAt x i t) (by rw [List.length_mapIdx, List.length_map]; omega) (fun y hy => by
    obtain ⟨i, hi, rfl⟩ := List.mem_mapIdx.1 hy
    have := aggAt_size h3 i (x.args.map showM)[i]
    have := showTs_le g3 _ (List.getElem_mem hi)
    omega)
  have a2 := sepL_le (sep := [44, 32]) (c := 2) 21000000000 (by simp) (x.body.map showLi) (fun y hy => by
    obtain ⟨z, hz, rfl⟩ := List.mem_map.1 hy
    exact showLi_le (g6 z hz))
  rw [List.length_map] at a2
  have a3 : x.body.length * (21000000000 + 2) ≤ 8 * (21000000000 + 2) := Nat.mul_le_mul_right _ (by omega)
  have a4 := relB_le h0
  simp only [showRu, showHead, List.length_append, List.length_cons, List.length_nil, data_length]
  omega
theorem showFa_le {x : Fa} (h : faB x = true) : (showFa x).length ≤ 90000000 := by
  rw [faB] at h
  simp only [Bool.and_eq_true] at h
  obtain ⟨g1, g2, -⟩ := listB_bounds h.2.1
  have a1 := showAtom_le (b := 10240000) (relB_le h.1) (l := x.args.map printB) (by rw [List.length_map]; omega) (fun y hy => by
    obtain ⟨z, _, rfl⟩ := List.mem_map.1 hy
    exact printB_le z)
  simp only [showFa, List.length_append, List.length_cons, List.length_nil]
  omega
theorem showDe_le {x : De} (h : deB x = true) : (showDe x).length ≤ 60 := by
  rw [deB] at h
  simp only [Bool.and_eq_true, decide_eq_true_eq] at h
  have h1 := relB_le h.1
  have h2 := itoa_le x.arity (by omega)
  simp only [showDe, List.length_append, List.length_cons, List.length_nil, data_length]
  omega
theorem linesOf_le (b : Nat) : ∀ (l : List (List UInt8)), (∀ y ∈ l, y.length ≤ b) → (linesOf l).length ≤ l.length * (b + 1)
  | [], _ => by simp [linesOf]
  | y :: l, h => by
    have h1 := linesOf_le b l fun z hz => h z (by simp [hz])
    have h2 := h y (by simp)
    simp only [linesOf] at h1
    simp only [linesOf, List.map_cons, List.flatten_cons, List.length_append, List.length_cons, List.length_nil]
    rw [Nat.succ_mul]; omega
theorem showPr_le {x : Pr} (h : prB x = true) : (showPr x).length ≤ 13000000000000 := by
  rw [prB] at h
  simp only [Bool.and_eq_true] at h
  obtain ⟨-, g1, g2⟩ := listB_bounds h.1
  obtain ⟨-, g3, g4⟩ := listB_bounds h.2.1
  obtain ⟨-, g5, g6⟩ := listB_bounds h.2.2
  have a1 := linesOf_le 60 (x.decls.map showDe) fun y hy => by
    obtain ⟨z, hz, rfl⟩ := List.mem_map.1 hy
    exact showDe_le (g2 z hz)
  have a2 := linesOf_le 90000000 (x.facts.map showFa) fun y hy => by
    obtain ⟨z, hz, rfl⟩ := List.mem_map.1 hy
    exact showFa_le (g4 z hz)
  have a3 := linesOf_le 190000000000 (x.rules.map showRu) fun y hy => by
    obtain ⟨z, hz, rfl⟩ := List.mem_map.1 hy
    exact showRu_le (g6 z hz)
  rw [List.length_map] at a1 a2 a3
  have b1 : x.decls.length * (60 + 1) ≤ 64 * (60 + 1) := Nat.mul_le_mul_right _ (by omega)
  have b2 : x.facts.length * (90000000 + 1) ≤ 64 * (90000000 + 1) := Nat.mul_le_mul_right _ (by omega)
  have b3 : x.rules.length * (190000000000 + 1) ≤ 64 * (190000000000 + 1) := Nat.mul_le_mul_right _ (by omega)
  simp only [showPr, List.length_append]
  omega
/-- Each text is short enough to be held. -/
theorem showM_fits {x : Tm} (h : rightM 8 x = true) : (showM x).length ≤ 140737488355328 := Nat.le_trans (showM_le8 h) (by omega)
theorem showLi_fits {x : Li} (h : liB x = true) : (showLi x).length ≤ 140737488355328 := Nat.le_trans (showLi_le h) (by omega)
theorem showRu_fits {x : Ru} (h : ruB x = true) : (showRu x).length ≤ 140737488355328 := Nat.le_trans (showRu_le h) (by omega)
theorem showFa_fits {x : Fa} (h : faB x = true) : (showFa x).length ≤ 140737488355328 := Nat.le_trans (showFa_le h) (by omega)
theorem showPr_fits {x : Pr} (h : prB x = true) : (showPr x).length ≤ 140737488355328 := Nat.le_trans (showPr_le h) (by omega)

end Go.Proofs.YtgjemmdhamkngaaGreatDoor

/-
  Byte arrays by their bytes.
-/
namespace Go.Proofs.YtgjemmdhamkngaaGreatDoor
open Go.RowKit

theorem bytes_ext {s t : ByteArray} (h : s.toList = t.toList) : s = t := by
  rw [Lib.toList_data, Lib.toList_data] at h
  cases s with
  | mk a => cases t with
    | mk b => simp at h; rw [h]
theorem none_of {s : ByteArray} (h : s.toList.isEmpty = true) : s = ⟨#[]⟩ := by
  refine bytes_ext ?_
  have h0 : s.toList = [] := by simpa using h
  rw [h0, Lib.toList_data]

end Go.Proofs.YtgjemmdhamkngaaGreatDoor

/-
  Right values that are printed alike are the same.
-/
namespace Go.Proofs.YtgjemmdhamkngaaGreatDoor
open Go.RowKit

/-- A value's text and behind it nothing, a comma or a bracket. -/
def Ends (r : List UInt8) : Prop := ∀ c t, r = c :: t → c = 44 ∨ c = 93
/-- No comma and no bracket. -/
def Plain (a : List UInt8) : Prop := ∀ c, c ∈ a → c ≠ 44 ∧ c ≠ 93

theorem plain_eq : ∀ (a b r r' : List UInt8), Plain a → Plain b → Ends r → Ends r' → a ++ r = b ++ r' → a = b ∧ r = r'
  | [], [], r, r', _, _, _, _, h => ⟨rfl, h⟩
  | [], c :: b, r, r', _, hb, hr, _, h => by
    have := hr c (b ++ r') h
    have h2 := hb c (by simp)
    rcases this with e | e
    · exact absurd e h2.1
    · exact absurd e h2.2
  | c :: a, [], r, r', ha, _, _, hr', h => by
    have := hr' c (a ++ r) h.symm
    have h2 := ha c (by simp)
    rcases this with e | e
    · exact absurd e h2.1
    · exact absurd e h2.2
  | c :: a, c' :: b, r, r', ha, hb, hr, hr', h => by
    simp only [List.cons_append, List.cons.injEq] at h
    obtain ⟨rfl, h⟩ := h
    obtain ⟨h1, h2⟩ := plain_eq a b r r' (fun c hc => ha c (by simp [hc])) (fun c hc => hb c (by simp [hc])) hr hr' h
    exact ⟨by rw [h1], h2⟩
theorem quoted_eq : ∀ (a b r r' : List UInt8), (∀ c, c ∈ a → c ≠ 34) → (∀ c, c ∈ b → c ≠ 34) → a ++ 34 :: r = b ++ 34 :: r' → a = b ∧ r = r'
  | [], [], r, r', _, _, h => by simpa using h
  | [], c :: b, r, r', _, hb, h => by
    simp only [List.nil_append, List.cons_append, List.cons.injEq] at h
    exact absurd h.1.symm (hb c (by simp))
  | c :: a, [], r, r', ha, _, h => by
    simp only [List.nil_append, List.cons_append, List.cons.injEq] at h
    exact absurd h.1 (ha c (by simp))
  | c :: a, c' :: b, r, r', ha, hb, h => by
    simp only [List.cons_append, List.cons.injEq] at h
    obtain ⟨rfl, h⟩ := h
    obtain ⟨h1, h2⟩ := quoted_eq a b r r' (fun c hc => ha c (by simp [hc])) (fun c hc => hb c (by simp [hc])) h
    exact ⟨by rw [h1], h2⟩

theorem digit_nat {k : Nat} (h : k < 10) : (UInt8.ofNat (48 + k)).toNat = 48 + k := by
  rw [UInt8.toNat_ofNat']; omega
theorem decDigits_digit : ∀ (u : Nat) (c : UInt8), c ∈ Lib.decDigits u → 48 ≤ c.toNat ∧ c.toNat ≤ 57 := by
  intro u
  induction u using Nat.strongRecOn with
  | ind u ih =>
    intro c hc
    rw [Lib.decDigits] at hc
    split at hc
    · rename_i h
      rw [List.mem_singleton.1 hc, digit_nat h]; omega
    · rcases List.mem_append.1 hc with hc | hc
      · exact ih (u / 10) (by omega) c hc
      · rw [List.mem_singleton.1 hc, digit_nat (Nat.mod_lt u (by omega))]; omega
theorem decDigits_low {u : Nat} (h : u < 10) : Lib.decDigits u = [UInt8.ofNat (48 + u)] := by rw [Lib.decDigits, dif_pos h]
theorem decDigits_high {u : Nat} (h : ¬ u < 10) : Lib.decDigits u = Lib.decDigits (u / 10) ++ [UInt8.ofNat (48 + u % 10)] := by rw [Lib.decDigits, dif_neg h]
theorem decDigits_inj : ∀ (u v : Nat), Lib.decDigits u = Lib.decDigits v → u = v := by
  intro u
  induction u using Nat.strongRecOn with
  | ind u ih =>
    intro v h
    by_cases hu : u < 10
    · by_cases hv : v < 10
      · rw [decDigits_low hu, decDigits_low hv] at h
        have h1 := congrArg UInt8.toNat (List.cons.inj h).1
        rw [digit_nat hu, digit_nat hv] at h1
        omega
      · rw [decDigits_low hu, decDigits_high hv] at h
        have h1 := congrArg List.length h
        have h2 := List.length_pos_iff.2 (decDigits_ne (v / 10))
        simp only [List.length_append, List.length_cons, List.length_nil] at h1
        omega
    · by_cases hv : v < 10
      · rw [decDigits_high hu, decDigits_low hv] at h
        have h1 := congrArg List.length h
        have h2 := List.length_pos_iff.2 (decDigits_ne (u / 10))
        simp only [List.length_append, List.length_cons, List.length_nil] at h1
        omega
      · rw [decDigits_high hu, decDigits_high hv] at h
        obtain ⟨h1, h2⟩ := List.append_inj' h rfl
        have h3 := ih (u / 10) (by omega) (v / 10) h1
        have h4 := congrArg UInt8.toNat (List.cons.inj h2).1
        rw [digit_nat (Nat.mod_lt u (by omega)), digit_nat (Nat.mod_lt v (by omega))] at h4
        omega
theorem itoa_bytes (n : Int) (c : UInt8) (h : c ∈ Lib.itoa n) : c.toNat = 45 ∨ (48 ≤ c.toNat ∧ c.toNat ≤ 57) := by
  unfold Lib.itoa at h
  split at h
  · rcases List.mem_cons.1 h with rfl | h
    · left; rfl
    · exact .inr (decDigits_digit _ _ h)
  · exact .inr (decDigits_digit _ _ h)
theorem itoa_inj (n m : Int) (h : Lib.itoa n = Lib.itoa m) : n = m := by
  have key : ∀ u v : Nat, (45 : UInt8) :: Lib.decDigits u = Lib.decDigits v → False := fun u v h => by
    have := decDigits_digit v 45 (by rw [← h]; simp)
    have h45 : (45 : UInt8).toNat = 45 := rfl
    omega
  unfold Lib.itoa at h
  split at h
  · split at h
    · have := decDigits_inj _ _ (List.cons.inj h).2; omega
    · exact (key _ _ h).elim
  · split at h
    · exact (key _ _ h.symm).elim
    · have := decDigits_inj _ _ h; omega

theorem u8_ne {c : UInt8} {k : Nat} (hk : k < 256) (h : c.toNat ≠ k) : c ≠ UInt8.ofNat k := fun e => h (by rw [e, UInt8.toNat_ofNat']; omega)
theorem itoa_plain (n : Int) : Plain (Lib.itoa n) := fun c hc => by
  have h := itoa_bytes n c hc
  exact ⟨u8_ne (k := 44) (by omega) (by omega), u8_ne (k := 93) (by omega) (by omega)⟩
theorem mem_at {s : ByteArray} {c : UInt8} (h : c ∈ s.data.toList) : ∃ (i : Nat) (hi : i < s.size), s[i] = c := by
  obtain ⟨i, hi, e⟩ := List.getElem_of_mem h
  refine ⟨i, by rw [data_length] at hi; exact hi, ?_⟩
  rw [← e]; rfl
theorem text_bytes {s : ByteArray} (h : textB s = true) : ∀ c, c ∈ s.data.toList → c ≠ 34 := fun c hc => by
  obtain ⟨i, hi, rfl⟩ := mem_at hc
  have h1 := (of_decide_eq_true h).2 i hi
  have h2 := of_decide_eq_true h1
  exact u8_ne (k := 34) (by omega) (by omega)
theorem name_bytes {s : ByteArray} (h : nameB s = true) : ∀ c, c ∈ s.data.toList → 97 ≤ c.toNat ∧ c.toNat ≤ 122 ∨ 48 ≤ c.toNat ∧ c.toNat ≤ 57 ∨ c.toNat = 95 := fun c hc => by
  obtain ⟨i, hi, rfl⟩ := mem_at hc
  have h1 := (of_decide_eq_true h).2.2 i hi
  simp only [okAt, smallB, digitB, Bool.or_eq_true, Bool.and_eq_true, decide_eq_true_eq, beq_iff_eq] at h1
  omega
theorem name_first {s : ByteArray} (h : nameB s = true) : ∃ c t, s.data.toList = c :: t ∧ 97 ≤ c.toNat ∧ c.toNat ≤ 122 := by
  have h0 := (of_decide_eq_true h).1
  have h1 := (of_decide_eq_true h).2.2 0 (by omega)
  match hs : s.data.toList with
  | [] => have := data_length s; rw [hs] at this; simp at this; omega
  | c :: t =>
    refine ⟨c, t, rfl, ?_⟩
    have e : s[0] = c := by
      have : s.data.toList[0]'(by rw [hs]; simp) = c := by simp [hs]
      rw [← this]; rfl
    rw [e] at h1
    simp only [okAt, smallB, digitB, Bool.or_eq_true, Bool.and_eq_true, decide_eq_true_eq, beq_iff_eq] at h1
    simp at h1
    omega
theorem name_plain {s : ByteArray} (h : nameB s = true) : Plain s.data.toList := fun c hc => by
  have := name_bytes h c hc
  exact ⟨u8_ne (k := 44) (by omega) (by omega), u8_ne (k := 93) (by omega) (by omega)⟩

/-- The first byte tells the kind. -/
def kindOf (c : UInt8) : Int := if c.toNat = 34 then 2 else if c.toNat = 91 then 4 else if 97 ≤ c.toNat then 3 else 1
theorem pr_first {d : Nat} {k n : Int} {s : ByteArray} {l : List V} (h : rightV d (.mk k n s l) = true) : ∃ c t, prV (.mk k n s l) = c :: t ∧ kindOf c = k ∧ c ≠ 44 ∧ c ≠ 93 := by
  rw [rightV_mk] at h
  rcases baseB_cases h with ⟨rfl, _, _, _, _⟩ | ⟨rfl, _, _, h1⟩ | ⟨rfl, _, _, h1⟩ | ⟨rfl, _, _, h1⟩
  · have e : prV (.mk 1 n s l) = Lib.itoa n := by simp [prV]
    match hc : Lib.itoa n with
    | [] => exact absurd hc (itoa_ne n)
    | c :: t =>
      have hb := itoa_bytes n c (by rw [hc]; simp)
      refine ⟨c, t, by rw [e, hc], ?_, u8_ne (k := 44) (by omega) (by omega), u8_ne (k := 93) (by omega) (by omega)⟩
      unfold kindOf
      rw [if_neg (by omega), if_neg (by omega), if_neg (by omega)]
  · exact ⟨34, _, by simp [prV]; rfl, rfl, by decide, by decide⟩
  · obtain ⟨c, t, e, h2, h3⟩ := name_first h1
    refine ⟨c, t, by simp [prV, e], ?_, u8_ne (k := 44) (by omega) (by omega), u8_ne (k := 93) (by omega) (by omega)⟩
    unfold kindOf
    rw [if_neg (by omega), if_neg (by omega), if_pos (by omega)]
  · exact ⟨91, _, by simp [prV]; rfl, rfl, by decide, by decide⟩

theorem prL_ends (l : List V) (r : List UInt8) : Ends (prL false l ++ 93 :: r) := fun c t h => by
  cases l with
  | nil => simp [prL] at h; exact .inr h.1.symm
  | cons x l => simp [prL] at h; exact .inl h.1.symm
theorem data_ext {s t : ByteArray} (h : s.data.toList = t.data.toList) : s = t := by
  cases s; cases t; simp at h; rw [h]

/-- Lists, given their elements. -/
theorem prL_apart {P : V → Prop} (hf : ∀ x, P x → ∃ c t, prV x = c :: t ∧ c ≠ 44 ∧ c ≠ 93)
    (hP : ∀ x y r r', P x → P y → Ends r → Ends r' → prV x ++ r = prV y ++ r' → x = y ∧ r = r') :
    ∀ (l m : List V) (first : Bool) (r r' : List UInt8), (∀ x ∈ l, P x) → (∀ x ∈ m, P x) → prL first l ++ 93 :: r = prL first m ++ 93 :: r' → l = m ∧ r = r'
  | [], [], first, r, r', _, _, h => by simpa [prL] using h
  | [], y :: m, first, r, r', _, hm, h => by
    obtain ⟨c, t, e, h1, h2⟩ := hf y (hm y (by simp))
    cases first
    · simp [prL] at h
    · simp [prL, e] at h
      exact absurd h.1.symm h2
  | x :: l, [], first, r, r', hl, _, h => by
    obtain ⟨c, t, e, h1, h2⟩ := hf x (hl x (by simp))
    cases first
    · simp [prL] at h
    · simp [prL, e] at h
      exact absurd h.1 h2
  | x :: l, y :: m, first, r, r', hl, hm, h => by
    have h' : prV x ++ (prL false l ++ 93 :: r) = prV y ++ (prL false m ++ 93 :: r') := by
      cases first <;> simpa [prL] using h
    obtain ⟨h1, h2⟩ := hP x y _ _ (hl x (by simp)) (hm y (by simp)) (prL_ends l r) (prL_ends m r') h'
    obtain ⟨h3, h4⟩ := prL_apart hf hP l m false r r' (fun z hz => hl z (by simp [hz])) (fun z hz => hm z (by simp [hz])) h2
    exact ⟨by rw [h1, h3], h4⟩

theorem pr_apart : ∀ (d : Nat) (x y : V) (r r' : List UInt8), rightV d x = true → rightV d y = true → Ends r → Ends r' → prV x ++ r = prV y ++ r' → x = y ∧ r = r'
  | d, .mk k n s l, .mk k' n' s' l', r, r', hx, hy, hr, hr', h => by
    have hk : k = k' := by
      obtain ⟨c, t, e, h1, _⟩ := pr_first hx
      obtain ⟨c', t', e', h1', _⟩ := pr_first hy
      rw [e, e', List.cons_append, List.cons_append] at h
      rw [← h1, ← h1', (List.cons.inj h).1]
    subst hk
    have hx' := hx
    have hy' := hy
    rw [rightV_mk] at hx' hy'
    rcases baseB_cases hx' with ⟨rfl, h1, rfl, _, _⟩ | ⟨rfl, rfl, rfl, h1⟩ | ⟨rfl, rfl, rfl, h1⟩ | ⟨rfl, rfl, h1, h2⟩
    · rcases baseB_cases hy' with ⟨_, h1', rfl, _, _⟩ | ⟨e, _⟩ | ⟨e, _⟩ | ⟨e, _⟩
      · have e1 : prV (.mk 1 n s []) = Lib.itoa n := by simp [prV]
        have e2 : prV (.mk 1 n' s' []) = Lib.itoa n' := by simp [prV]
        rw [e1, e2] at h
        obtain ⟨h3, h4⟩ := plain_eq _ _ _ _ (itoa_plain n) (itoa_plain n') hr hr' h
        rw [itoa_inj _ _ h3, none_of h1, none_of h1']
        exact ⟨rfl, h4⟩
      all_goals exact absurd e (by decide)
    · rcases baseB_cases hy' with ⟨e, _⟩ | ⟨_, rfl, rfl, h1'⟩ | ⟨e, _⟩ | ⟨e, _⟩
      case inr.inl =>
        have e1 : prV (.mk 2 0 s []) = 34 :: (s.data.toList ++ [34]) := by simp [prV]
        have e2 : prV (.mk 2 0 s' []) = 34 :: (s'.data.toList ++ [34]) := by simp [prV]
        rw [e1, e2] at h
        simp only [List.cons_append, List.cons.injEq, true_and, List.append_assoc, List.nil_append] at h
        obtain ⟨h3, h4⟩ := quoted_eq _ _ _ _ (text_bytes h1) (text_bytes h1') h
        rw [data_ext h3]
        exact ⟨rfl, h4⟩
      all_goals exact absurd e (by decide)
    · rcases baseB_cases hy' with ⟨e, _⟩ | ⟨e, _⟩ | ⟨_, rfl, rfl, h1'⟩ | ⟨e, _⟩
      case inr.inr.inl =>
        have e1 : prV (.mk 3 0 s []) = s.data.toList := by simp [prV]
        have e2 : prV (.mk 3 0 s' []) = s'.data.toList := by simp [prV]
        rw [e1, e2] at h
        obtain ⟨h3, h4⟩ := plain_eq _ _ _ _ (name_plain h1) (name_plain h1') hr hr' h
        rw [data_ext h3]
        exact ⟨rfl, h4⟩
      all_goals exact absurd e (by decide)
    · rcases baseB_cases hy' with ⟨e, _⟩ | ⟨e, _⟩ | ⟨e, _⟩ | ⟨_, rfl, h1', h2'⟩
      case inr.inr.inr =>
        have e1 : prV (.mk 4 0 s l) = 91 :: (prL true l ++ [93]) := by simp [prV]
        have e2 : prV (.mk 4 0 s' l') = 91 :: (prL true l' ++ [93]) := by simp [prV]
        rw [e1, e2] at h
        simp only [List.cons_append, List.cons.injEq, true_and, List.append_assoc, List.nil_append] at h
        match d, h2, h2' with
        | d + 1, h2, h2' =>
          simp only [rightL, Bool.and_eq_true, decide_eq_true_eq, List.all_eq_true] at h2 h2'
          obtain ⟨h3, h4⟩ := prL_apart (P := fun x => rightV d x = true) (fun x hx => by cases x; obtain ⟨c, t, e, _, h⟩ := pr_first hx; exact ⟨c, t, e, h⟩)
            (fun x y r r' => pr_apart d x y r r') l l' true r r' h2.2 h2'.2 h
          rw [h3, none_of h1, none_of h1']
          exact ⟨rfl, h4⟩
      all_goals exact absurd e (by decide)

theorem print_apart {x y : V} (hx : rightV 4 x = true) (hy : rightV 4 y = true) (h : printB x = printB y) : x = y := by
  rw [printB, printB, if_pos hx, if_pos hy] at h
  refine (pr_apart 4 x y [] [] hx hy (fun c t e => by cases e) (fun c t e => by cases e) (by rw [h])).1

end Go.Proofs.YtgjemmdhamkngaaGreatDoor
