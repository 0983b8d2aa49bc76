/-
  When terms, literals, rules, facts and programs may be, as plain answers about their trees.
-/
import Derived.Test.YtgjemmdhamkngaaGreatDoorW01
import Derived.Test.YtgjemmdhamkngaaGreatDoorW02
namespace Go.Proofs.YtgjemmdhamkngaaGreatDoor
open Go.RowKit

/-- Nothing in a value. -/
def noneB (x : V) : Bool := x.kind == 0 && (x.num == 0 && (x.text.toList.isEmpty && x.list.isEmpty))
/-- A function's name. -/
def fnB (s : ByteArray) : Bool := decide (0 ≤ fnArity (fnOf s))
/-- 'materialize'. -/
def declB (s : ByteArray) : Bool := s.toList == [109, 97, 116, 101, 114, 105, 97, 108, 105, 122, 101]
def relB (s : ByteArray) : Bool := nameB s && (!fnB s && !declB s)
def valB (x : V) : Bool := rightV 4 x && !(x.kind == 3 && fnB x.text)
/-- '+', '-' or '*'. -/
def opB (s : ByteArray) : Bool := s.toList == [43] || (s.toList == [45] || s.toList == [42])
/-- '==', '!=', '<', '<=', '>' or '>='. -/
def cmpB (s : ByteArray) : Bool := s.toList == [61, 61] || (s.toList == [33, 61] || (s.toList == [60] || (s.toList == [60, 61] || (s.toList == [62] || s.toList == [62, 61]))))
/-- So many elements, each right. -/
def listB {α : Type} (least most : Int) (R : α → Bool) (l : List α) : Bool := decide (least ≤ (l.length : Int)) && (decide ((l.length : Int) ≤ most) && l.all R)

/-- Is a term right, so deep at most? -/
def rightM : Nat → Tm → Bool
  | 0, _ => false
  | d + 1, .mk k s x l =>
    if k = 1 then varB s && (noneB x && l.isEmpty)
    else if k = 2 then s.toList.isEmpty && (valB x && l.isEmpty)
    else if k = 3 then noneB x && listB (fnArity (fnOf s)) (fnArity (fnOf s)) (rightM d) l
    else if k = 4 then opB s && (noneB x && listB 2 2 (rightM d) l)
    else false
/-- May it tell at which node a tuple is? -/
def placeB (t : Tm) : Bool := t.kind == 1 || (t.kind == 2 && t.val.kind == 3)
def headB (l : List Tm) : Bool := match l with
  | [] => false
  | t :: _ => placeB t
def atomB (s : ByteArray) (l : List Tm) : Bool := relB s && (listB 1 8 (rightM 8) l && headB l)
/-- 'min', 'max' or 'count'. -/
def aggNameB (s : ByteArray) : Bool := s.toList == [109, 105, 110] || (s.toList == [109, 97, 120] || s.toList == [99, 111, 117, 110, 116])
def kindAt (l : List Tm) (i : Int) : Int := match l[i.toNat]? with
  | some t => t.kind
  | none => 0
def aggB (r : Ru) : Bool :=
  if r.agg.toList.isEmpty = true then r.at' == 0
  else aggNameB r.agg && (decide (1 ≤ r.at') && (decide (r.at' < (r.args.length : Int)) && kindAt r.args r.at' == 1))
def liB (x : Li) : Bool :=
  if x.kind = 1 then atomB x.name x.args
  else if x.kind = 2 then atomB x.name x.args
  else if x.kind = 3 then cmpB x.name && listB 2 2 (rightM 8) x.args
  else if x.kind = 4 then varB x.name && listB 1 1 (rightM 8) x.args
  else false
def ruB (r : Ru) : Bool := relB r.label && (atomB r.head r.args && (aggB r && listB 1 8 liB r.body))
def deB (d : De) : Bool := relB d.name && (decide (1 ≤ d.arity) && decide (d.arity ≤ 8))
def headV (l : List V) : Bool := match l with
  | [] => false
  | x :: _ => x.kind == 3
def faB (t : Fa) : Bool := relB t.name && (listB 1 8 (rightV 4) t.args && headV t.args)
def prB (p : Pr) : Bool := listB 0 64 deB p.decls && (listB 0 64 faB p.facts && listB 0 64 ruB p.rules)

theorem listB_few {α : Type} {least most : Int} {R : α → Bool} {l : List α} (h : (l.length : Int) < least) : listB least most R l = false := by
  unfold listB; rw [decide_eq_false (by omega)]; rfl
theorem listB_many {α : Type} {least most : Int} {R : α → Bool} {l : List α} (h : most < (l.length : Int)) : listB least most R l = false := by
  unfold listB; rw [decide_eq_false (p := (l.length : Int) ≤ most) (by omega)]; simp
theorem listB_some {α : Type} {least most : Int} {R : α → Bool} {l : List α} (h1 : least ≤ (l.length : Int)) (h2 : (l.length : Int) ≤ most) : listB least most R l = l.all R := by
  unfold listB; rw [decide_eq_true h1, decide_eq_true h2]; rfl
theorem listB_bounds {α : Type} {least most : Int} {R : α → Bool} {l : List α} (h : listB least most R l = true) : least ≤ (l.length : Int) ∧ (l.length : Int) ≤ most ∧ ∀ x ∈ l, R x = true := by
  unfold listB at h
  simp only [Bool.and_eq_true, decide_eq_true_eq, List.all_eq_true] at h
  exact ⟨h.1, h.2.1, h.2.2⟩
theorem all_none {α : Type} {R : α → Bool} {l : List α} {k : Nat} (hk : k < l.length) (h : R l[k] = false) : l.all R = false := by
  cases e : l.all R with
  | false => rfl
  | true =>
    rw [List.all_eq_true] at e
    rw [e _ (List.getElem_mem hk)] at h
    cases h
theorem rightM_zero (t : Tm) : rightM 0 t = false := by rw [rightM]
theorem rightM_succ (d : Nat) (k : Int) (s : ByteArray) (x : V) (l : List Tm) : rightM (d + 1) (.mk k s x l) =
    if k = 1 then varB s && (noneB x && l.isEmpty)
    else if k = 2 then s.toList.isEmpty && (valB x && l.isEmpty)
    else if k = 3 then noneB x && listB (fnArity (fnOf s)) (fnArity (fnOf s)) (rightM d) l
    else if k = 4 then opB s && (noneB x && listB 2 2 (rightM d) l)
    else false := by rw [rightM]

end Go.Proofs.YtgjemmdhamkngaaGreatDoor

/-
  printer's small questions: names, what is none, ops, places.
-/
namespace Go.Proofs.YtgjemmdhamkngaaGreatDoor
open Go.RowKit

set_option maxRecDepth 100000 in
theorem function_any (s : ByteArray) (w : World) : Calls Tryz.prog 103 #[.string s] w fun e w' => e = .returned (.bool (fnB s)) ∧ Below w.heap.size w w' := by
  have HF : Hid (decide (0 ≤ fnArity (fnOf s)) = fnB s) := rfl
  go_enter Tryz.func103, Tryz.ntmps103
  go_wp2_with fail
  refine (arity_any s _).mono ?_
  rintro e w1 ⟨rfl, hb⟩
  go_wp2_with fail
  go_ret
  exact ⟨ret_bool HF.out, hb⟩

set_option maxRecDepth 100000 in
theorem relation_any (s : ByteArray) (w : World) (hs : s.size ≤ maxLen) : Calls Tryz.prog 66 #[.string s] w fun e w' => e = .returned (.bool (relB s)) ∧ Below w.heap.size w w' := by
  cases h1 : nameB s with
  | false =>
    have HF : Hid (relB s = false) := by show _ = _; simp [relB, h1]
    have H1 := Lib.hid h1; clear h1
    go_enter Tryz.func66, Tryz.ntmps66
    go_wp2_with fail
    refine (name_any s _ hs).mono ?_
    rw [H1.out]
    rintro e w1 ⟨rfl, hb⟩
    go_wp2_with fail
    go_ret
    exact ⟨ret_bool HF.out.symm, hb⟩
  | true =>
  cases h2 : fnB s with
  | true =>
    have HF : Hid (relB s = false) := by show _ = _; simp [relB, h1, h2]
    have H1 := Lib.hid h1; have H2 := Lib.hid h2; clear h1 h2
    go_enter Tryz.func66, Tryz.ntmps66
    go_wp2_with fail
    refine (name_any s _ hs).mono ?_
    rw [H1.out]
    rintro e w1 ⟨rfl, hb⟩
    go_wp2_with fail
    refine (function_any s _).mono ?_
    rw [H2.out]
    rintro e w2 ⟨rfl, hb2⟩
    go_wp2_with fail
    go_ret
    exact ⟨ret_bool HF.out.symm, Below.step hb hb2⟩
  | false =>
  cases h3 : declB s
  all_goals
    have HF := Lib.hid (show relB s = (!declB s) by simp [relB, h1, h2])
    have HF' := HF.out
    rw [h3] at HF'
    have HG := Lib.hid HF'
    have H1 := Lib.hid h1; have H2 := Lib.hid h2; unfold declB at h3; clear h1 h2 HF HF'
    go_enter Tryz.func66, Tryz.ntmps66
    go_wp2_with fail
    refine (name_any s _ hs).mono ?_
    rw [H1.out]
    rintro e w1 ⟨rfl, hb⟩
    go_wp2_with fail
    refine (function_any s _).mono ?_
    rw [H2.out]
    rintro e w2 ⟨rfl, hb2⟩
    go_wp2_with fail
    go_ret
    exact ⟨ret_bool HG.out.symm, Below.step hb hb2⟩

theorem isEmpty_len {α : Type} (l : List α) : l.isEmpty = ((l.length : Int) == 0) := by
  cases l with
  | nil => rfl
  | cons x l => symm; rw [beq_eq_false_iff_ne.2 (by simp; omega)]; rfl
set_option maxRecDepth 100000 in
theorem nothing_any (x : V) (S : Nat → Prop) (w : World) (c0 c1 c2 c3 : Value) (hx : RepG S w x c0 c1 c2 c3) : Calls Tryz.prog 114 #[.agg #[c0, c1, c2, c3]] w fun e w' => e = .returned (.bool (noneB x)) ∧ Below w.heap.size w w' := by
  obtain ⟨fa, fc, rfl, rfl, rfl, rfl⟩ := hx.form
  clear hx
  cases h0 : (x.kind == 0) with
  | false =>
    have HF : Hid (noneB x = false) := by show _ = _; simp only [noneB, h0, Bool.false_and]
    go_enter Tryz.func114, Tryz.ntmps114
    go_wp2_with fail
    go_ret
    exact ⟨ret_bool HF.out.symm, below_alloc _ _⟩
  | true =>
  cases h1 : (x.num == 0) with
  | false =>
    have HF : Hid (noneB x = false) := by show _ = _; simp only [noneB, h0, h1, Bool.false_and, Bool.true_and]
    go_enter Tryz.func114, Tryz.ntmps114
    go_wp2_with fail
    go_ret
    exact ⟨ret_bool HF.out.symm, below_alloc _ _⟩
  | true =>
  cases h2 : (x.text.toList.isEmpty) with
  | false =>
    have HF : Hid (noneB x = false) := by show _ = _; simp only [noneB, h0, h1, h2, Bool.false_and, Bool.true_and]
    go_enter Tryz.func114, Tryz.ntmps114
    go_wp2_with fail
    go_ret
    exact ⟨ret_bool HF.out.symm, below_alloc _ _⟩
  | true =>
  have h3 := isEmpty_len x.list
  cases h4 : ((x.list.length : Int) == 0) with
  | false =>
    have HF : Hid (noneB x = false) := by show _ = _; simp only [noneB, h0, h1, h2, h3, h4, Bool.true_and]
    clear h3
    go_enter Tryz.func114, Tryz.ntmps114
    go_wp2_with fail
    go_ret
    exact ⟨ret_bool HF.out.symm, below_alloc _ _⟩
  | true =>
    have HF : Hid (noneB x = true) := by show _ = _; simp only [noneB, h0, h1, h2, h3, h4, Bool.true_and]
    clear h3
    go_enter Tryz.func114, Tryz.ntmps114
    go_wp2_with fail
    go_ret
    exact ⟨ret_bool HF.out.symm, below_alloc _ _⟩

set_option maxRecDepth 100000 in
theorem rightValue_any (x : V) (S : Nat → Prop) (w : World) (c0 c1 c2 c3 : Value) (hS : ∀ k, S k → k < w.heap.size) (hx : RepG S w x c0 c1 c2 c3) : Calls Tryz.prog 115 #[.agg #[c0, c1, c2, c3]] w fun e w' => e = .returned (.bool (valB x)) ∧ Below w.heap.size w w' := by
  have HX := Lib.hid hx
  obtain ⟨fa, fc, rfl, rfl, rfl, rfl⟩ := hx.form
  clear hx
  cases h0 : rightV 4 x with
  | false =>
    have HF : Hid (valB x = false) := by show _ = _; simp only [valB, h0, Bool.false_and]
    have HR := Lib.hid h0; clear h0
    go_enter Tryz.func115, Tryz.ntmps115
    go_wp2_with fail
    have x1 := boxed_new w (.int .i64 x.kind) (.int .i64 x.num) (.string x.text) (.slice fa x.list.length fc)
    have b1 := below_alloc w (.cells #[.int .i64 x.kind, .int .i64 x.num, .string x.text, .slice fa x.list.length fc] 44)
    generalize w.alloc (.cells #[.int .i64 x.kind, .int .i64 x.num, .string x.text, .slice fa x.list.length fc] 44) = w1 at *
    refine (right_any x w1.heap.size w1 _ _ _ _ (Nat.le_refl _) (RepG.on (fun k hk => Nat.lt_of_lt_of_le (hS k hk) b1.size) (fun k hk => b1.block k (hS k hk)) x HX.out)).mono ?_
    rw [HR.out]
    rintro e w2 ⟨rfl, hb2⟩
    obtain ⟨q0, q1, q2, q3⟩ := (x1.on hb2).cells
    go_wp2_with fail
    go_ret
    exact ⟨ret_bool HF.out.symm, Below.step b1 hb2⟩
  | true =>
  cases h1 : (x.kind == 3) with
  | false =>
    have HF : Hid (valB x = true) := by show _ = _; simp only [valB, h0, h1, Bool.false_and, Bool.true_and, Bool.not_false]
    have HR := Lib.hid h0; clear h0
    go_enter Tryz.func115, Tryz.ntmps115
    go_wp2_with fail
    have x1 := boxed_new w (.int .i64 x.kind) (.int .i64 x.num) (.string x.text) (.slice fa x.list.length fc)
    have b1 := below_alloc w (.cells #[.int .i64 x.kind, .int .i64 x.num, .string x.text, .slice fa x.list.length fc] 44)
    generalize w.alloc (.cells #[.int .i64 x.kind, .int .i64 x.num, .string x.text, .slice fa x.list.length fc] 44) = w1 at *
    refine (right_any x w1.heap.size w1 _ _ _ _ (Nat.le_refl _) (RepG.on (fun k hk => Nat.lt_of_lt_of_le (hS k hk) b1.size) (fun k hk => b1.block k (hS k hk)) x HX.out)).mono ?_
    rw [HR.out]
    rintro e w2 ⟨rfl, hb2⟩
    obtain ⟨q0, q1, q2, q3⟩ := (x1.on hb2).cells
    go_wp2_with fail
    go_ret
    exact ⟨ret_bool HF.out.symm, Below.step b1 hb2⟩
  | true =>
  cases h2 : fnB x.text
  all_goals
    have HF := Lib.hid (show valB x = (!fnB x.text) by simp only [valB, h0, h1, Bool.true_and])
    have HF' := HF.out
    rw [h2] at HF'
    have HG := Lib.hid HF'
    have H2 := Lib.hid h2
    have HR := Lib.hid h0; clear h0 h2 HF HF'
    go_enter Tryz.func115, Tryz.ntmps115
    go_wp2_with fail
    have x1 := boxed_new w (.int .i64 x.kind) (.int .i64 x.num) (.string x.text) (.slice fa x.list.length fc)
    have b1 := below_alloc w (.cells #[.int .i64 x.kind, .int .i64 x.num, .string x.text, .slice fa x.list.length fc] 44)
    generalize w.alloc (.cells #[.int .i64 x.kind, .int .i64 x.num, .string x.text, .slice fa x.list.length fc] 44) = w1 at *
    refine (right_any x w1.heap.size w1 _ _ _ _ (Nat.le_refl _) (RepG.on (fun k hk => Nat.lt_of_lt_of_le (hS k hk) b1.size) (fun k hk => b1.block k (hS k hk)) x HX.out)).mono ?_
    rw [HR.out]
    rintro e w2 ⟨rfl, hb2⟩
    obtain ⟨q0, q1, q2, q3⟩ := (x1.on hb2).cells
    go_wp2_with fail
    refine (function_any x.text _).mono ?_
    rw [H2.out]
    rintro e w3 ⟨rfl, hb3⟩
    go_wp2_with fail
    go_ret
    exact ⟨ret_bool HG.out.symm, Below.step (Below.step b1 hb2) hb3⟩

set_option maxRecDepth 100000 in
theorem reckoning_any (s : ByteArray) (w : World) : Calls Tryz.prog 118 #[.string s] w fun e w' => e = .returned (.bool (opB s)) ∧ w = w' := by
  cases h0 : (s.toList == [43]) with
  | true =>
    have HF : Hid (opB s = true) := by show _ = _; simp [opB, h0]
    go_enter Tryz.func118, Tryz.ntmps118
    go_wp2_with fail
    go_ret
    exact ⟨ret_bool HF.out.symm, rfl⟩
  | false =>
  cases h1 : (s.toList == [45]) with
  | true =>
    have HF : Hid (opB s = true) := by show _ = _; simp [opB, h0, h1]
    go_enter Tryz.func118, Tryz.ntmps118
    go_wp2_with fail
    go_ret
    exact ⟨ret_bool HF.out.symm, rfl⟩
  | false =>
  cases h2 : (s.toList == [42]) with
  | true =>
    have HF : Hid (opB s = true) := by show _ = _; simp [opB, h0, h1, h2]
    go_enter Tryz.func118, Tryz.ntmps118
    go_wp2_with fail
    go_ret
    exact ⟨ret_bool HF.out.symm, rfl⟩
  | false =>
    have HF : Hid (opB s = false) := by show _ = _; simp only [opB, h0, h1, h2, Bool.false_or]
    go_enter Tryz.func118, Tryz.ntmps118
    go_wp2_with fail
    go_ret
    exact ⟨ret_bool HF.out.symm, rfl⟩

set_option maxRecDepth 100000 in
theorem comparing_any (s : ByteArray) (w : World) : Calls Tryz.prog 90 #[.string s] w fun e w' => e = .returned (.bool (cmpB s)) ∧ w = w' := by
  cases h0 : (s.toList == [61, 61]) with
  | true =>
    have HF : Hid (cmpB s = true) := by show _ = _; simp [cmpB, h0]
    go_enter Tryz.func90, Tryz.ntmps90
    go_wp2_with fail
    go_ret
    exact ⟨ret_bool HF.out.symm, rfl⟩
  | false =>
  cases h1 : (s.toList == [33, 61]) with
  | true =>
    have HF : Hid (cmpB s = true) := by show _ = _; simp [cmpB, h0, h1]
    go_enter Tryz.func90, Tryz.ntmps90
    go_wp2_with fail
    go_ret
    exact ⟨ret_bool HF.out.symm, rfl⟩
  | false =>
  cases h2 : (s.toList == [60]) with
  | true =>
    have HF : Hid (cmpB s = true) := by show _ = _; simp [cmpB, h0, h1, h2]
    go_enter Tryz.func90, Tryz.ntmps90
    go_wp2_with fail
    go_ret
    exact ⟨ret_bool HF.out.symm, rfl⟩
  | false =>
  cases h3 : (s.toList == [60, 61]) with
  | true =>
    have HF : Hid (cmpB s = true) := by show _ = _; simp [cmpB, h0, h1, h2, h3]
    go_enter Tryz.func90, Tryz.ntmps90
    go_wp2_with fail
    go_ret
    exact ⟨ret_bool HF.out.symm, rfl⟩
  | false =>
  cases h4 : (s.toList == [62]) with
  | true =>
    have HF : Hid (cmpB s = true) := by show _ = _; simp [cmpB, h0, h1, h2, h3, h4]
    go_enter Tryz.func90, Tryz.ntmps90
    go_wp2_with fail
    go_ret
    exact ⟨ret_bool HF.out.symm, rfl⟩
  | false =>
  cases h5 : (s.toList == [62, 61]) with
  | true =>
    have HF : Hid (cmpB s = true) := by show _ = _; simp [cmpB, h0, h1, h2, h3, h4, h5]
    go_enter Tryz.func90, Tryz.ntmps90
    go_wp2_with fail
    go_ret
    exact ⟨ret_bool HF.out.symm, rfl⟩
  | false =>
    have HF : Hid (cmpB s = false) := by show _ = _; simp only [cmpB, h0, h1, h2, h3, h4, h5, Bool.false_or]
    go_enter Tryz.func90, Tryz.ntmps90
    go_wp2_with fail
    go_ret
    exact ⟨ret_bool HF.out.symm, rfl⟩

set_option maxRecDepth 100000 in
theorem place_any (t : Tm) (S : Nat → Prop) (w : World) (c0 c1 c2 c3 c4 c5 c6 : Value) (ht : RepM S w t c0 c1 c2 c3 c4 c5 c6) : Calls Tryz.prog 105 #[.agg #[c0, c1, c2, c3, c4, c5, c6]] w fun e w' => e = .returned (.bool (placeB t)) ∧ Below w.heap.size w w' := by
  obtain ⟨fa, fc, ga, gc, rfl, rfl, rfl, rfl, rfl, rfl, rfl⟩ := ht.form
  clear ht
  cases h0 : (t.kind == 1) with
  | true =>
    have HF : Hid (placeB t = true) := by show _ = _; simp only [placeB, h0, Bool.true_or]
    go_enter Tryz.func105, Tryz.ntmps105
    go_wp2_with fail
    go_ret
    exact ⟨ret_bool HF.out.symm, below_alloc _ _⟩
  | false =>
  cases h1 : (t.kind == 2) with
  | false =>
    have HF : Hid (placeB t = false) := by show _ = _; simp only [placeB, h0, h1, Bool.false_or, Bool.false_and]
    go_enter Tryz.func105, Tryz.ntmps105
    go_wp2_with fail
    go_ret
    exact ⟨ret_bool HF.out.symm, below_alloc _ _⟩
  | true =>
  cases h2 : (t.val.kind == 3) with
  | false =>
    have HF : Hid (placeB t = false) := by show _ = _; simp only [placeB, h0, h1, h2, Bool.false_or, Bool.and_false]
    go_enter Tryz.func105, Tryz.ntmps105
    go_wp2_with fail
    go_ret
    exact ⟨ret_bool HF.out.symm, below_alloc _ _⟩
  | true =>
    have HF : Hid (placeB t = true) := by show _ = _; simp only [placeB, h0, h1, h2, Bool.false_or, Bool.true_and]
    go_enter Tryz.func105, Tryz.ntmps105
    go_wp2_with fail
    go_ret
    exact ⟨ret_bool HF.out.symm, below_alloc _ _⟩

end Go.Proofs.YtgjemmdhamkngaaGreatDoor

/-
  Literals, rules, facts and relations where they lie, one of a slice.
-/
namespace Go.Proofs.YtgjemmdhamkngaaGreatDoor
open Go.RowKit


theorem RepLi.form {S : Nat → Prop} {w : World} {x : Li} {c0 c1 c2 : Value} (h : RepLi S w x c0 c1 c2) : ∃ (ga : Option Addr) (gc : Nat), c0 = .int .i64 x.kind ∧ c1 = .string x.name ∧ c2 = .slice ga x.args.length gc := by
  obtain ⟨h0, h1, -, -, h4⟩ := h
  obtain ⟨ga, gc, e⟩ := SlG.form h4
  exact ⟨ga, gc, h0, h1, e⟩

theorem RepLis.at {S : Nat → Prop} {w : World} {l : List Li} {a : Option Addr} {len cap : Nat} (h : RepLis S w l (.slice a len cap)) (i : Nat) (hi : i < l.length) :
    len = l.length ∧ l.length ≤ cap ∧ ∃ (b o : Nat) (ga : Option Addr) (gc : Nat), a = some ⟨b, o, none⟩ ∧ S b ∧ w.cell? ⟨b, o + i * 3, none⟩ = some (.int .i64 l[i].kind) ∧ w.cell? ⟨b, o + i * 3 + 1, none⟩ = some (.string l[i].name) ∧ w.cell? ⟨b, o + i * 3 + 2, none⟩ = some (.slice ga l[i].args.length gc) ∧ RepLi S w l[i] (.int .i64 l[i].kind) (.string l[i].name) (.slice ga l[i].args.length gc) := by
  obtain ⟨h1, h2, b, o, h3, h4, c, hc, hr⟩ := SlG.at h i hi
  obtain ⟨ga, gc, e0, e1, e2⟩ := hr.form
  rw [e0, e1, e2] at hr
  exact ⟨h1, h2, b, o, ga, gc, h3, h4, by rw [← e0]; exact hc 0 (by omega), by rw [← e1]; exact hc 1 (by omega), by rw [← e2]; exact hc 2 (by omega), hr⟩

theorem RepDe.form {S : Nat → Prop} {w : World} {x : De} {c0 c1 : Value} (h : RepDe S w x c0 c1) : c0 = .string x.name ∧ c1 = .int .i64 x.arity := by
  exact ⟨h.1, h.2.1⟩

theorem RepDes.at {S : Nat → Prop} {w : World} {l : List De} {a : Option Addr} {len cap : Nat} (h : RepDes S w l (.slice a len cap)) (i : Nat) (hi : i < l.length) :
    len = l.length ∧ l.length ≤ cap ∧ ∃ (b o : Nat) , a = some ⟨b, o, none⟩ ∧ S b ∧ w.cell? ⟨b, o + i * 2, none⟩ = some (.string l[i].name) ∧ w.cell? ⟨b, o + i * 2 + 1, none⟩ = some (.int .i64 l[i].arity) ∧ RepDe S w l[i] (.string l[i].name) (.int .i64 l[i].arity) := by
  obtain ⟨h1, h2, b, o, h3, h4, c, hc, hr⟩ := SlG.at h i hi
  obtain ⟨e0, e1⟩ := hr.form
  rw [e0, e1] at hr
  exact ⟨h1, h2, b, o, h3, h4, by rw [← e0]; exact hc 0 (by omega), by rw [← e1]; exact hc 1 (by omega), hr⟩

theorem RepFa.form {S : Nat → Prop} {w : World} {x : Fa} {c0 c1 : Value} (h : RepFa S w x c0 c1) : ∃ (ga : Option Addr) (gc : Nat), c0 = .string x.name ∧ c1 = .slice ga x.args.length gc := by
  obtain ⟨ga, -, -, gc, e, -⟩ := id h.2.2
  exact ⟨ga, gc, h.1, e⟩

theorem RepFas.at {S : Nat → Prop} {w : World} {l : List Fa} {a : Option Addr} {len cap : Nat} (h : RepFas S w l (.slice a len cap)) (i : Nat) (hi : i < l.length) :
    len = l.length ∧ l.length ≤ cap ∧ ∃ (b o : Nat) (ga : Option Addr) (gc : Nat), a = some ⟨b, o, none⟩ ∧ S b ∧ w.cell? ⟨b, o + i * 2, none⟩ = some (.string l[i].name) ∧ w.cell? ⟨b, o + i * 2 + 1, none⟩ = some (.slice ga l[i].args.length gc) ∧ RepFa S w l[i] (.string l[i].name) (.slice ga l[i].args.length gc) := by
  obtain ⟨h1, h2, b, o, h3, h4, c, hc, hr⟩ := SlG.at h i hi
  obtain ⟨ga, gc, e0, e1⟩ := hr.form
  rw [e0, e1] at hr
  exact ⟨h1, h2, b, o, ga, gc, h3, h4, by rw [← e0]; exact hc 0 (by omega), by rw [← e1]; exact hc 1 (by omega), hr⟩

theorem RepRu.form {S : Nat → Prop} {w : World} {x : Ru} {c0 c1 c2 c3 c4 c5 : Value} (h : RepRu S w x c0 c1 c2 c3 c4 c5) : ∃ (fa : Option Addr) (fc : Nat) (ga : Option Addr) (gc : Nat), c0 = .string x.label ∧ c1 = .string x.head ∧ c2 = .slice fa x.args.length fc ∧ c3 = .string x.agg ∧ c4 = .int .i64 x.at' ∧ c5 = .slice ga x.body.length gc := by
  obtain ⟨h0, h1, h3, h4, -, -, -, -, h8, h9⟩ := h
  obtain ⟨fa, fc, e⟩ := SlG.form h8
  obtain ⟨ga, gc, e'⟩ := SlG.form h9
  exact ⟨fa, fc, ga, gc, h0, h1, e, h3, h4, e'⟩

theorem RepRus.at {S : Nat → Prop} {w : World} {l : List Ru} {a : Option Addr} {len cap : Nat} (h : RepRus S w l (.slice a len cap)) (i : Nat) (hi : i < l.length) :
    len = l.length ∧ l.length ≤ cap ∧ ∃ (b o : Nat) (fa : Option Addr) (fc : Nat) (ga : Option Addr) (gc : Nat), a = some ⟨b, o, none⟩ ∧ S b ∧ w.cell? ⟨b, o + i * 6, none⟩ = some (.string l[i].label) ∧ w.cell? ⟨b, o + i * 6 + 1, none⟩ = some (.string l[i].head) ∧ w.cell? ⟨b, o + i * 6 + 2, none⟩ = some (.slice fa l[i].args.length fc) ∧ w.cell? ⟨b, o + i * 6 + 3, none⟩ = some (.string l[i].agg) ∧ w.cell? ⟨b, o + i * 6 + 4, none⟩ = some (.int .i64 l[i].at') ∧ w.cell? ⟨b, o + i * 6 + 5, none⟩ = some (.slice ga l[i].body.length gc) ∧ RepRu S w l[i] (.string l[i].label) (.string l[i].head) (.slice fa l[i].args.length fc) (.string l[i].agg) (.int .i64 l[i].at') (.slice ga l[i].body.length gc) := by
  obtain ⟨h1, h2, b, o, h3, h4, c, hc, hr⟩ := SlG.at h i hi
  obtain ⟨fa, fc, ga, gc, e0, e1, e2, e3, e4, e5⟩ := hr.form
  rw [e0, e1, e2, e3, e4, e5] at hr
  exact ⟨h1, h2, b, o, fa, fc, ga, gc, h3, h4, by rw [← e0]; exact hc 0 (by omega), by rw [← e1]; exact hc 1 (by omega), by rw [← e2]; exact hc 2 (by omega), by rw [← e3]; exact hc 3 (by omega), by rw [← e4]; exact hc 4 (by omega), by rw [← e5]; exact hc 5 (by omega), hr⟩


end Go.Proofs.YtgjemmdhamkngaaGreatDoor

/-
  printer's rightList, at each type and with each question that it is handed: how many there are, and whether each is right.
-/
namespace Go.Proofs.YtgjemmdhamkngaaGreatDoor
open Go.RowKit

set_option maxRecDepth 100000 in
set_option maxHeartbeats 1000000 in
theorem rl_terms (l : List Tm) (least most : Int) (R : Tm → Bool) (S : Nat → Prop) (w : World) (a : Value) (hS : ∀ k, S k → k < w.heap.size) (ha : RepMs S w l a)
    (tells : ∀ (wr : World), Below w.heap.size w wr → ∀ x ∈ l, ∀ (fa : Option Addr) (fc : Nat) (ga : Option Addr) (gc : Nat), RepM S wr x (.int .i64 x.kind) (.string x.name) (.int .i64 x.val.kind) (.int .i64 x.val.num) (.string x.val.text) (.slice fa x.val.list.length fc) (.slice ga x.args.length gc) → Calls Tryz.prog 53 #[.agg #[.int .i64 x.kind, .string x.name, .int .i64 x.val.kind, .int .i64 x.val.num, .string x.val.text, .slice fa x.val.list.length fc, .slice ga x.args.length gc]] wr fun e w' => e = .returned (.bool (R x)) ∧ Below wr.heap.size wr w') :
    Calls Tryz.prog 91 #[a, .int .i64 least, .int .i64 most, .func (.func 53) #[] #[]] w fun e w' => e = .returned (.bool (listB least most R l)) ∧ Below w.heap.size w w' := by
  have HA := Lib.hid ha; have HT := Lib.hid tells
  obtain ⟨aa, cap, rfl⟩ := SlG.form ha
  have hlen : l.length * 104 ≤ 140737488355328 := SlG.bytes ha
  clear ha tells
  by_cases h1 : (l.length : Int) < least
  · have HF := Lib.hid (listB_few (most := most) (R := R) h1)
    have h1' : decide ((l.length : Int) < least) = true := by simpa using h1
    go_enter Tryz.func91, Tryz.ntmps91
    go_wp2_with fail
    go_ret
    exact ⟨ret_bool HF.out.symm, Below.refl _ _⟩
  have h1' : decide ((l.length : Int) < least) = false := by simpa using h1
  by_cases h2 : most < (l.length : Int)
  · have HF := Lib.hid (listB_many (least := least) (R := R) h2)
    have h2' : decide (most < (l.length : Int)) = true := by simpa using h2
    go_enter Tryz.func91, Tryz.ntmps91
    go_wp2_with fail
    go_ret
    exact ⟨ret_bool HF.out.symm, Below.refl _ _⟩
  have h2' : decide (most < (l.length : Int)) = false := by simpa using h2
  have HL := Lib.hid (listB_some (R := R) (show least ≤ (l.length : Int) by omega) (show (l.length : Int) ≤ most by omega))
  clear h1 h2
  go_enter Tryz.func91, Tryz.ntmps91
  go_wp2_with fail
  go_loopw [23] (fun i wr => ∃ k : Nat, k ≤ l.length ∧ i = .int .i64 k ∧ Hid (l.all R = (l.drop k).all R) ∧ Below w.heap.size w wr) (fun i _ => l.length - (intOf i).toNat)
  case atStart => exact ⟨0, Nat.zero_le _, rfl, rfl, Below.refl _ _⟩
  case round =>
    obtain ⟨k, hk, rfl, hrec, hbel⟩ := hrel
    have HB := Lib.hid hbel
    clear h1' h2'
    by_cases hl : k < l.length
    · have hA := RepMs.on (fun _ h => h) (fun j hj => hbel.block j (hS j hj)) HA.out
      obtain ⟨-, -, b, o, fa, fc, ga, gc, rfl, -, g0, g1, g2, g3, g4, g5, g6, g⟩ := RepMs.at hA k hl
      have G := Lib.hid g
      have HM := Lib.hid (show l[k] ∈ l from List.getElem_mem hl)
      have HD := Lib.hid (List.drop_eq_getElem_cons hl)
      clear hA g
      generalize l[k] = z at *
      have hba := below_alloc wr (.cells #[.int .i64 z.kind, .string z.name, .int .i64 z.val.kind, .int .i64 z.val.num, .string z.val.text, .slice fa z.val.list.length fc, .slice ga z.args.length gc] 46)
      have HZ := Lib.hid (RepM.on (fun _ h => h) (fun j hj => hba.block j (Nat.lt_of_lt_of_le (hS j hj) hbel.size)) z G.out)
      have HBA := Lib.hid (Below.step hbel hba)
      clear hbel hba
      have hen : ∀ args w, Sem.run Tryz.prog (callFunc 53 args) w = .ok (.enter 53 args) w := fun args w => by kernel_rfl
      go_wp2_with fail
      refine (HT.out _ HBA.out z HM.out fa fc ga gc HZ.out).mono ?_
      rintro e w3 ⟨rfl, hb3⟩
      have HB3 := Lib.hid (Below.step HBA.out hb3)
      clear hb3
      cases hc : R z with
      | true =>
        have HF : Hid (l.all R = (l.drop (k + 1)).all R) := by show _ = _; rw [hrec.out, HD.out, List.all_cons, hc, Bool.true_and]
        clear hc
        go_wp2_with fail
        go_roundw
        case rel => exact ⟨k + 1, by omega, by go_num, HF, HB3.out⟩
        case measure => simp [intOf]; omega
      | false =>
        have HF : Hid (listB least most R l = false) := by show _ = _; rw [HL.out, hrec.out, HD.out, List.all_cons, hc, Bool.false_and]
        clear hc
        go_wp2_with fail
        go_ret
        exact ⟨ret_bool HF.out.symm, HB3.out⟩
    · have HF : Hid (listB least most R l = true) := by show _ = _; rw [HL.out, hrec.out, List.drop_of_length_le (by omega)]; rfl
      go_wp2_with fail
      go_ret
      exact ⟨ret_bool HF.out.symm, HB.out⟩

set_option maxRecDepth 100000 in
set_option maxHeartbeats 1000000 in
theorem rl_parts (l : List Tm) (least most : Int) (R : Tm → Bool) (q : Value) (S : Nat → Prop) (w : World) (a : Value) (hS : ∀ k, S k → k < w.heap.size) (ha : RepMs S w l a)
    (tells : ∀ (wr : World), Below w.heap.size w wr → ∀ x ∈ l, ∀ (fa : Option Addr) (fc : Nat) (ga : Option Addr) (gc : Nat), RepM S wr x (.int .i64 x.kind) (.string x.name) (.int .i64 x.val.kind) (.int .i64 x.val.num) (.string x.val.text) (.slice fa x.val.list.length fc) (.slice ga x.args.length gc) → Calls Tryz.prog 127 #[.agg #[.int .i64 x.kind, .string x.name, .int .i64 x.val.kind, .int .i64 x.val.num, .string x.val.text, .slice fa x.val.list.length fc, .slice ga x.args.length gc], q] wr fun e w' => e = .returned (.bool (R x)) ∧ Below wr.heap.size wr w') :
    Calls Tryz.prog 91 #[a, .int .i64 least, .int .i64 most, .func (.func 127) #[] #[q]] w fun e w' => e = .returned (.bool (listB least most R l)) ∧ Below w.heap.size w w' := by
  have HA := Lib.hid ha; have HT := Lib.hid tells
  obtain ⟨aa, cap, rfl⟩ := SlG.form ha
  have hlen : l.length * 104 ≤ 140737488355328 := SlG.bytes ha
  clear ha tells
  by_cases h1 : (l.length : Int) < least
  · have HF := Lib.hid (listB_few (most := most) (R := R) h1)
    have h1' : decide ((l.length : Int) < least) = true := by simpa using h1
    go_enter Tryz.func91, Tryz.ntmps91
    go_wp2_with fail
    go_ret
    exact ⟨ret_bool HF.out.symm, Below.refl _ _⟩
  have h1' : decide ((l.length : Int) < least) = false := by simpa using h1
  by_cases h2 : most < (l.length : Int)
  · have HF := Lib.hid (listB_many (least := least) (R := R) h2)
    have h2' : decide (most < (l.length : Int)) = true := by simpa using h2
    go_enter Tryz.func91, Tryz.ntmps91
    go_wp2_with fail
    go_ret
    exact ⟨ret_bool HF.out.symm, Below.refl _ _⟩
  have h2' : decide (most < (l.length : Int)) = false := by simpa using h2
  have HL := Lib.hid (listB_some (R := R) (show least ≤ (l.length : Int) by omega) (show (l.length : Int) ≤ most by omega))
  clear h1 h2
  go_enter Tryz.func91, Tryz.ntmps91
  go_wp2_with fail
  go_loopw [23] (fun i wr => ∃ k : Nat, k ≤ l.length ∧ i = .int .i64 k ∧ Hid (l.all R = (l.drop k).all R) ∧ Below w.heap.size w wr) (fun i _ => l.length - (intOf i).toNat)
  case atStart => exact ⟨0, Nat.zero_le _, rfl, rfl, Below.refl _ _⟩
  case round =>
    obtain ⟨k, hk, rfl, hrec, hbel⟩ := hrel
    have HB := Lib.hid hbel
    clear h1' h2'
    by_cases hl : k < l.length
    · have hA := RepMs.on (fun _ h => h) (fun j hj => hbel.block j (hS j hj)) HA.out
      obtain ⟨-, -, b, o, fa, fc, ga, gc, rfl, -, g0, g1, g2, g3, g4, g5, g6, g⟩ := RepMs.at hA k hl
      have G := Lib.hid g
      have HM := Lib.hid (show l[k] ∈ l from List.getElem_mem hl)
      have HD := Lib.hid (List.drop_eq_getElem_cons hl)
      clear hA g
      generalize l[k] = z at *
      have hba := below_alloc wr (.cells #[.int .i64 z.kind, .string z.name, .int .i64 z.val.kind, .int .i64 z.val.num, .string z.val.text, .slice fa z.val.list.length fc, .slice ga z.args.length gc] 46)
      have HZ := Lib.hid (RepM.on (fun _ h => h) (fun j hj => hba.block j (Nat.lt_of_lt_of_le (hS j hj) hbel.size)) z G.out)
      have HBA := Lib.hid (Below.step hbel hba)
      clear hbel hba
      have hen : ∀ args w, Sem.run Tryz.prog (callFunc 127 args) w = .ok (.enter 127 args) w := fun args w => by kernel_rfl
      go_wp2_with fail
      refine (HT.out _ HBA.out z HM.out fa fc ga gc HZ.out).mono ?_
      rintro e w3 ⟨rfl, hb3⟩
      have HB3 := Lib.hid (Below.step HBA.out hb3)
      clear hb3
      cases hc : R z with
      | true =>
        have HF : Hid (l.all R = (l.drop (k + 1)).all R) := by show _ = _; rw [hrec.out, HD.out, List.all_cons, hc, Bool.true_and]
        clear hc
        go_wp2_with fail
        go_roundw
        case rel => exact ⟨k + 1, by omega, by go_num, HF, HB3.out⟩
        case measure => simp [intOf]; omega
      | false =>
        have HF : Hid (listB least most R l = false) := by show _ = _; rw [HL.out, hrec.out, HD.out, List.all_cons, hc, Bool.false_and]
        clear hc
        go_wp2_with fail
        go_ret
        exact ⟨ret_bool HF.out.symm, HB3.out⟩
    · have HF : Hid (listB least most R l = true) := by show _ = _; rw [HL.out, hrec.out, List.drop_of_length_le (by omega)]; rfl
      go_wp2_with fail
      go_ret
      exact ⟨ret_bool HF.out.symm, HB.out⟩

set_option maxRecDepth 100000 in
set_option maxHeartbeats 1000000 in
theorem rl_values (l : List V) (least most : Int) (R : V → Bool) (S : Nat → Prop) (w : World) (a : Value) (hS : ∀ k, S k → k < w.heap.size) (ha : RepLG S w l a)
    (tells : ∀ (wr : World), Below w.heap.size w wr → ∀ x ∈ l, ∀ (fa : Option Addr) (fc : Nat), RepG S wr x (.int .i64 x.kind) (.int .i64 x.num) (.string x.text) (.slice fa x.list.length fc) → Calls Tryz.prog 68 #[.agg #[.int .i64 x.kind, .int .i64 x.num, .string x.text, .slice fa x.list.length fc]] wr fun e w' => e = .returned (.bool (R x)) ∧ Below wr.heap.size wr w') :
    Calls Tryz.prog 67 #[a, .int .i64 least, .int .i64 most, .func (.func 68) #[] #[]] w fun e w' => e = .returned (.bool (listB least most R l)) ∧ Below w.heap.size w w' := by
  have HA := Lib.hid ha; have HT := Lib.hid tells
  obtain ⟨aa, -, -, cap, rfl, -⟩ := id ha
  have hlen : l.length * 56 ≤ 140737488355328 := by obtain ⟨_, _, _, _, _, _, h, _⟩ := ha; exact h
  clear ha tells
  by_cases h1 : (l.length : Int) < least
  · have HF := Lib.hid (listB_few (most := most) (R := R) h1)
    have h1' : decide ((l.length : Int) < least) = true := by simpa using h1
    go_enter Tryz.func67, Tryz.ntmps67
    go_wp2_with fail
    go_ret
    exact ⟨ret_bool HF.out.symm, Below.refl _ _⟩
  have h1' : decide ((l.length : Int) < least) = false := by simpa using h1
  by_cases h2 : most < (l.length : Int)
  · have HF := Lib.hid (listB_many (least := least) (R := R) h2)
    have h2' : decide (most < (l.length : Int)) = true := by simpa using h2
    go_enter Tryz.func67, Tryz.ntmps67
    go_wp2_with fail
    go_ret
    exact ⟨ret_bool HF.out.symm, Below.refl _ _⟩
  have h2' : decide (most < (l.length : Int)) = false := by simpa using h2
  have HL := Lib.hid (listB_some (R := R) (show least ≤ (l.length : Int) by omega) (show (l.length : Int) ≤ most by omega))
  clear h1 h2
  go_enter Tryz.func67, Tryz.ntmps67
  go_wp2_with fail
  go_loopw [23] (fun i wr => ∃ k : Nat, k ≤ l.length ∧ i = .int .i64 k ∧ Hid (l.all R = (l.drop k).all R) ∧ Below w.heap.size w wr) (fun i _ => l.length - (intOf i).toNat)
  case atStart => exact ⟨0, Nat.zero_le _, rfl, rfl, Below.refl _ _⟩
  case round =>
    obtain ⟨k, hk, rfl, hrec, hbel⟩ := hrel
    have HB := Lib.hid hbel
    clear h1' h2'
    by_cases hl : k < l.length
    · have hA := RepLG.on (fun _ h => h) (fun j hj => hbel.block j (hS j hj)) HA.out
      obtain ⟨-, -, b, o, fa, fc, rfl, -, g0, g1, g2, g3, g⟩ := RepLG.at hA k hl
      have G := Lib.hid g
      have HM := Lib.hid (show l[k] ∈ l from List.getElem_mem hl)
      have HD := Lib.hid (List.drop_eq_getElem_cons hl)
      clear hA g
      generalize l[k] = z at *
      have hba := below_alloc wr (.cells #[.int .i64 z.kind, .int .i64 z.num, .string z.text, .slice fa z.list.length fc] 44)
      have HZ := Lib.hid (RepG.on (fun _ h => h) (fun j hj => hba.block j (Nat.lt_of_lt_of_le (hS j hj) hbel.size)) z G.out)
      have HBA := Lib.hid (Below.step hbel hba)
      clear hbel hba
      have hen : ∀ args w, Sem.run Tryz.prog (callFunc 68 args) w = .ok (.enter 68 args) w := fun args w => by kernel_rfl
      go_wp2_with fail
      refine (HT.out _ HBA.out z HM.out fa fc HZ.out).mono ?_
      rintro e w3 ⟨rfl, hb3⟩
      have HB3 := Lib.hid (Below.step HBA.out hb3)
      clear hb3
      cases hc : R z with
      | true =>
        have HF : Hid (l.all R = (l.drop (k + 1)).all R) := by show _ = _; rw [hrec.out, HD.out, List.all_cons, hc, Bool.true_and]
        clear hc
        go_wp2_with fail
        go_roundw
        case rel => exact ⟨k + 1, by omega, by go_num, HF, HB3.out⟩
        case measure => simp [intOf]; omega
      | false =>
        have HF : Hid (listB least most R l = false) := by show _ = _; rw [HL.out, hrec.out, HD.out, List.all_cons, hc, Bool.false_and]
        clear hc
        go_wp2_with fail
        go_ret
        exact ⟨ret_bool HF.out.symm, HB3.out⟩
    · have HF : Hid (listB least most R l = true) := by show _ = _; rw [HL.out, hrec.out, List.drop_of_length_le (by omega)]; rfl
      go_wp2_with fail
      go_ret
      exact ⟨ret_bool HF.out.symm, HB.out⟩

set_option maxRecDepth 100000 in
set_option maxHeartbeats 1000000 in
theorem rl_literals (l : List Li) (least most : Int) (R : Li → Bool) (S : Nat → Prop) (w : World) (a : Value) (hS : ∀ k, S k → k < w.heap.size) (ha : RepLis S w l a)
    (tells : ∀ (wr : World), Below w.heap.size w wr → ∀ x ∈ l, ∀ (ga : Option Addr) (gc : Nat), RepLi S wr x (.int .i64 x.kind) (.string x.name) (.slice ga x.args.length gc) → Calls Tryz.prog 49 #[.agg #[.int .i64 x.kind, .string x.name, .slice ga x.args.length gc]] wr fun e w' => e = .returned (.bool (R x)) ∧ Below wr.heap.size wr w') :
    Calls Tryz.prog 71 #[a, .int .i64 least, .int .i64 most, .func (.func 49) #[] #[]] w fun e w' => e = .returned (.bool (listB least most R l)) ∧ Below w.heap.size w w' := by
  have HA := Lib.hid ha; have HT := Lib.hid tells
  obtain ⟨aa, cap, rfl⟩ := SlG.form ha
  have hlen : l.length * 48 ≤ 140737488355328 := SlG.bytes ha
  clear ha tells
  by_cases h1 : (l.length : Int) < least
  · have HF := Lib.hid (listB_few (most := most) (R := R) h1)
    have h1' : decide ((l.length : Int) < least) = true := by simpa using h1
    go_enter Tryz.func71, Tryz.ntmps71
    go_wp2_with fail
    go_ret
    exact ⟨ret_bool HF.out.symm, Below.refl _ _⟩
  have h1' : decide ((l.length : Int) < least) = false := by simpa using h1
  by_cases h2 : most < (l.length : Int)
  · have HF := Lib.hid (listB_many (least := least) (R := R) h2)
    have h2' : decide (most < (l.length : Int)) = true := by simpa using h2
    go_enter Tryz.func71, Tryz.ntmps71
    go_wp2_with fail
    go_ret
    exact ⟨ret_bool HF.out.symm, Below.refl _ _⟩
  have h2' : decide (most < (l.length : Int)) = false := by simpa using h2
  have HL := Lib.hid (listB_some (R := R) (show least ≤ (l.length : Int) by omega) (show (l.length : Int) ≤ most by omega))
  clear h1 h2
  go_enter Tryz.func71, Tryz.ntmps71
  go_wp2_with fail
  go_loopw [23] (fun i wr => ∃ k : Nat, k ≤ l.length ∧ i = .int .i64 k ∧ Hid (l.all R = (l.drop k).all R) ∧ Below w.heap.size w wr) (fun i _ => l.length - (intOf i).toNat)
  case atStart => exact ⟨0, Nat.zero_le _, rfl, rfl, Below.refl _ _⟩
  case round =>
    obtain ⟨k, hk, rfl, hrec, hbel⟩ := hrel
    have HB := Lib.hid hbel
    clear h1' h2'
    by_cases hl : k < l.length
    · have hA := RepLis.on (fun _ h => h) (fun j hj => hbel.block j (hS j hj)) HA.out
      obtain ⟨-, -, b, o, ga, gc, rfl, -, g0, g1, g2, g⟩ := RepLis.at hA k hl
      have G := Lib.hid g
      have HM := Lib.hid (show l[k] ∈ l from List.getElem_mem hl)
      have HD := Lib.hid (List.drop_eq_getElem_cons hl)
      clear hA g
      generalize l[k] = z at *
      have hba := below_alloc wr (.cells #[.int .i64 z.kind, .string z.name, .slice ga z.args.length gc] 41)
      have HZ := Lib.hid (RepLi.on (fun _ h => h) (fun j hj => hba.block j (Nat.lt_of_lt_of_le (hS j hj) hbel.size)) G.out)
      have HBA := Lib.hid (Below.step hbel hba)
      clear hbel hba
      have hen : ∀ args w, Sem.run Tryz.prog (callFunc 49 args) w = .ok (.enter 49 args) w := fun args w => by kernel_rfl
      go_wp2_with fail
      refine (HT.out _ HBA.out z HM.out ga gc HZ.out).mono ?_
      rintro e w3 ⟨rfl, hb3⟩
      have HB3 := Lib.hid (Below.step HBA.out hb3)
      clear hb3
      cases hc : R z with
      | true =>
        have HF : Hid (l.all R = (l.drop (k + 1)).all R) := by show _ = _; rw [hrec.out, HD.out, List.all_cons, hc, Bool.true_and]
        clear hc
        go_wp2_with fail
        go_roundw
        case rel => exact ⟨k + 1, by omega, by go_num, HF, HB3.out⟩
        case measure => simp [intOf]; omega
      | false =>
        have HF : Hid (listB least most R l = false) := by show _ = _; rw [HL.out, hrec.out, HD.out, List.all_cons, hc, Bool.false_and]
        clear hc
        go_wp2_with fail
        go_ret
        exact ⟨ret_bool HF.out.symm, HB3.out⟩
    · have HF : Hid (listB least most R l = true) := by show _ = _; rw [HL.out, hrec.out, List.drop_of_length_le (by omega)]; rfl
      go_wp2_with fail
      go_ret
      exact ⟨ret_bool HF.out.symm, HB.out⟩

set_option maxRecDepth 100000 in
set_option maxHeartbeats 1000000 in
theorem rl_decls (l : List De) (least most : Int) (R : De → Bool) (S : Nat → Prop) (w : World) (a : Value) (hS : ∀ k, S k → k < w.heap.size) (ha : RepDes S w l a)
    (tells : ∀ (wr : World), Below w.heap.size w wr → ∀ x ∈ l, RepDe S wr x (.string x.name) (.int .i64 x.arity) → Calls Tryz.prog 30 #[.agg #[.string x.name, .int .i64 x.arity]] wr fun e w' => e = .returned (.bool (R x)) ∧ Below wr.heap.size wr w') :
    Calls Tryz.prog 29 #[a, .int .i64 least, .int .i64 most, .func (.func 30) #[] #[]] w fun e w' => e = .returned (.bool (listB least most R l)) ∧ Below w.heap.size w w' := by
  have HA := Lib.hid ha; have HT := Lib.hid tells
  obtain ⟨aa, cap, rfl⟩ := SlG.form ha
  have hlen : l.length * 24 ≤ 140737488355328 := SlG.bytes ha
  clear ha tells
  by_cases h1 : (l.length : Int) < least
  · have HF := Lib.hid (listB_few (most := most) (R := R) h1)
    have h1' : decide ((l.length : Int) < least) = true := by simpa using h1
    go_enter Tryz.func29, Tryz.ntmps29
    go_wp2_with fail
    go_ret
    exact ⟨ret_bool HF.out.symm, Below.refl _ _⟩
  have h1' : decide ((l.length : Int) < least) = false := by simpa using h1
  by_cases h2 : most < (l.length : Int)
  · have HF := Lib.hid (listB_many (least := least) (R := R) h2)
    have h2' : decide (most < (l.length : Int)) = true := by simpa using h2
    go_enter Tryz.func29, Tryz.ntmps29
    go_wp2_with fail
    go_ret
    exact ⟨ret_bool HF.out.symm, Below.refl _ _⟩
  have h2' : decide (most < (l.length : Int)) = false := by simpa using h2
  have HL := Lib.hid (listB_some (R := R) (show least ≤ (l.length : Int) by omega) (show (l.length : Int) ≤ most by omega))
  clear h1 h2
  go_enter Tryz.func29, Tryz.ntmps29
  go_wp2_with fail
  go_loopw [23] (fun i wr => ∃ k : Nat, k ≤ l.length ∧ i = .int .i64 k ∧ Hid (l.all R = (l.drop k).all R) ∧ Below w.heap.size w wr) (fun i _ => l.length - (intOf i).toNat)
  case atStart => exact ⟨0, Nat.zero_le _, rfl, rfl, Below.refl _ _⟩
  case round =>
    obtain ⟨k, hk, rfl, hrec, hbel⟩ := hrel
    have HB := Lib.hid hbel
    clear h1' h2'
    by_cases hl : k < l.length
    · have hA := RepDes.on (fun _ h => h) (fun j hj => hbel.block j (hS j hj)) HA.out
      obtain ⟨-, -, b, o, rfl, -, g0, g1, g⟩ := RepDes.at hA k hl
      have G := Lib.hid g
      have HM := Lib.hid (show l[k] ∈ l from List.getElem_mem hl)
      have HD := Lib.hid (List.drop_eq_getElem_cons hl)
      clear hA g
      generalize l[k] = z at *
      have hba := below_alloc wr (.cells #[.string z.name, .int .i64 z.arity] 57)
      have HZ := Lib.hid (G.out)
      have HBA := Lib.hid (Below.step hbel hba)
      clear hbel hba
      have hen : ∀ args w, Sem.run Tryz.prog (callFunc 30 args) w = .ok (.enter 30 args) w := fun args w => by kernel_rfl
      go_wp2_with fail
      refine (HT.out _ HBA.out z HM.out  HZ.out).mono ?_
      rintro e w3 ⟨rfl, hb3⟩
      have HB3 := Lib.hid (Below.step HBA.out hb3)
      clear hb3
      cases hc : R z with
      | true =>
        have HF : Hid (l.all R = (l.drop (k + 1)).all R) := by show _ = _; rw [hrec.out, HD.out, List.all_cons, hc, Bool.true_and]
        clear hc
        go_wp2_with fail
        go_roundw
        case rel => exact ⟨k + 1, by omega, by go_num, HF, HB3.out⟩
        case measure => simp [intOf]; omega
      | false =>
        have HF : Hid (listB least most R l = false) := by show _ = _; rw [HL.out, hrec.out, HD.out, List.all_cons, hc, Bool.false_and]
        clear hc
        go_wp2_with fail
        go_ret
        exact ⟨ret_bool HF.out.symm, HB3.out⟩
    · have HF : Hid (listB least most R l = true) := by show _ = _; rw [HL.out, hrec.out, List.drop_of_length_le (by omega)]; rfl
      go_wp2_with fail
      go_ret
      exact ⟨ret_bool HF.out.symm, HB.out⟩

set_option maxRecDepth 100000 in
set_option maxHeartbeats 1000000 in
theorem rl_facts (l : List Fa) (least most : Int) (R : Fa → Bool) (S : Nat → Prop) (w : World) (a : Value) (hS : ∀ k, S k → k < w.heap.size) (ha : RepFas S w l a)
    (tells : ∀ (wr : World), Below w.heap.size w wr → ∀ x ∈ l, ∀ (ga : Option Addr) (gc : Nat), RepFa S wr x (.string x.name) (.slice ga x.args.length gc) → Calls Tryz.prog 32 #[.agg #[.string x.name, .slice ga x.args.length gc]] wr fun e w' => e = .returned (.bool (R x)) ∧ Below wr.heap.size wr w') :
    Calls Tryz.prog 31 #[a, .int .i64 least, .int .i64 most, .func (.func 32) #[] #[]] w fun e w' => e = .returned (.bool (listB least most R l)) ∧ Below w.heap.size w w' := by
  have HA := Lib.hid ha; have HT := Lib.hid tells
  obtain ⟨aa, cap, rfl⟩ := SlG.form ha
  have hlen : l.length * 40 ≤ 140737488355328 := SlG.bytes ha
  clear ha tells
  by_cases h1 : (l.length : Int) < least
  · have HF := Lib.hid (listB_few (most := most) (R := R) h1)
    have h1' : decide ((l.length : Int) < least) = true := by simpa using h1
    go_enter Tryz.func31, Tryz.ntmps31
    go_wp2_with fail
    go_ret
    exact ⟨ret_bool HF.out.symm, Below.refl _ _⟩
  have h1' : decide ((l.length : Int) < least) = false := by simpa using h1
  by_cases h2 : most < (l.length : Int)
  · have HF := Lib.hid (listB_many (least := least) (R := R) h2)
    have h2' : decide (most < (l.length : Int)) = true := by simpa using h2
    go_enter Tryz.func31, Tryz.ntmps31
    go_wp2_with fail
    go_ret
    exact ⟨ret_bool HF.out.symm, Below.refl _ _⟩
  have h2' : decide (most < (l.length : Int)) = false := by simpa using h2
  have HL := Lib.hid (listB_some (R := R) (show least ≤ (l.length : Int) by omega) (show (l.length : Int) ≤ most by omega))
  clear h1 h2
  go_enter Tryz.func31, Tryz.ntmps31
  go_wp2_with fail
  go_loopw [23] (fun i wr => ∃ k : Nat, k ≤ l.length ∧ i = .int .i64 k ∧ Hid (l.all R = (l.drop k).all R) ∧ Below w.heap.size w wr) (fun i _ => l.length - (intOf i).toNat)
  case atStart => exact ⟨0, Nat.zero_le _, rfl, rfl, Below.refl _ _⟩
  case round =>
    obtain ⟨k, hk, rfl, hrec, hbel⟩ := hrel
    have HB := Lib.hid hbel
    clear h1' h2'
    by_cases hl : k < l.length
    · have hA := RepFas.on (fun _ h => h) (fun j hj => hbel.block j (hS j hj)) HA.out
      obtain ⟨-, -, b, o, ga, gc, rfl, -, g0, g1, g⟩ := RepFas.at hA k hl
      have G := Lib.hid g
      have HM := Lib.hid (show l[k] ∈ l from List.getElem_mem hl)
      have HD := Lib.hid (List.drop_eq_getElem_cons hl)
      clear hA g
      generalize l[k] = z at *
      have hba := below_alloc wr (.cells #[.string z.name, .slice ga z.args.length gc] 33)
      have HZ := Lib.hid (RepFa.on (fun _ h => h) (fun j hj => hba.block j (Nat.lt_of_lt_of_le (hS j hj) hbel.size)) G.out)
      have HBA := Lib.hid (Below.step hbel hba)
      clear hbel hba
      have hen : ∀ args w, Sem.run Tryz.prog (callFunc 32 args) w = .ok (.enter 32 args) w := fun args w => by kernel_rfl
      go_wp2_with fail
      refine (HT.out _ HBA.out z HM.out ga gc HZ.out).mono ?_
      rintro e w3 ⟨rfl, hb3⟩
      have HB3 := Lib.hid (Below.step HBA.out hb3)
      clear hb3
      cases hc : R z with
      | true =>
        have HF : Hid (l.all R = (l.drop (k + 1)).all R) := by show _ = _; rw [hrec.out, HD.out, List.all_cons, hc, Bool.true_and]
        clear hc
        go_wp2_with fail
        go_roundw
        case rel => exact ⟨k + 1, by omega, by go_num, HF, HB3.out⟩
        case measure => simp [intOf]; omega
      | false =>
        have HF : Hid (listB least most R l = false) := by show _ = _; rw [HL.out, hrec.out, HD.out, List.all_cons, hc, Bool.false_and]
        clear hc
        go_wp2_with fail
        go_ret
        exact ⟨ret_bool HF.out.symm, HB3.out⟩
    · have HF : Hid (listB least most R l = true) := by show _ = _; rw [HL.out, hrec.out, List.drop_of_length_le (by omega)]; rfl
      go_wp2_with fail
      go_ret
      exact ⟨ret_bool HF.out.symm, HB.out⟩

set_option maxRecDepth 100000 in
set_option maxHeartbeats 1000000 in
theorem rl_rules (l : List Ru) (least most : Int) (R : Ru → Bool) (S : Nat → Prop) (w : World) (a : Value) (hS : ∀ k, S k → k < w.heap.size) (ha : RepRus S w l a)
    (tells : ∀ (wr : World), Below w.heap.size w wr → ∀ x ∈ l, ∀ (fa : Option Addr) (fc : Nat) (ga : Option Addr) (gc : Nat), RepRu S wr x (.string x.label) (.string x.head) (.slice fa x.args.length fc) (.string x.agg) (.int .i64 x.at') (.slice ga x.body.length gc) → Calls Tryz.prog 34 #[.agg #[.string x.label, .string x.head, .slice fa x.args.length fc, .string x.agg, .int .i64 x.at', .slice ga x.body.length gc]] wr fun e w' => e = .returned (.bool (R x)) ∧ Below wr.heap.size wr w') :
    Calls Tryz.prog 33 #[a, .int .i64 least, .int .i64 most, .func (.func 34) #[] #[]] w fun e w' => e = .returned (.bool (listB least most R l)) ∧ Below w.heap.size w w' := by
  have HA := Lib.hid ha; have HT := Lib.hid tells
  obtain ⟨aa, cap, rfl⟩ := SlG.form ha
  have hlen : l.length * 104 ≤ 140737488355328 := SlG.bytes ha
  clear ha tells
  by_cases h1 : (l.length : Int) < least
  · have HF := Lib.hid (listB_few (most := most) (R := R) h1)
    have h1' : decide ((l.length : Int) < least) = true := by simpa using h1
    go_enter Tryz.func33, Tryz.ntmps33
    go_wp2_with fail
    go_ret
    exact ⟨ret_bool HF.out.symm, Below.refl _ _⟩
  have h1' : decide ((l.length : Int) < least) = false := by simpa using h1
  by_cases h2 : most < (l.length : Int)
  · have HF := Lib.hid (listB_many (least := least) (R := R) h2)
    have h2' : decide (most < (l.length : Int)) = true := by simpa using h2
    go_enter Tryz.func33, Tryz.ntmps33
    go_wp2_with fail
    go_ret
    exact ⟨ret_bool HF.out.symm, Below.refl _ _⟩
  have h2' : decide (most < (l.length : Int)) = false := by simpa using h2
  have HL := Lib.hid (listB_some (R := R) (show least ≤ (l.length : Int) by omega) (show (l.length : Int) ≤ most by omega))
  clear h1 h2
  go_enter Tryz.func33, Tryz.ntmps33
  go_wp2_with fail
  go_loopw [23] (fun i wr => ∃ k : Nat, k ≤ l.length ∧ i = .int .i64 k ∧ Hid (l.all R = (l.drop k).all R) ∧ Below w.heap.size w wr) (fun i _ => l.length - (intOf i).toNat)
  case atStart => exact ⟨0, Nat.zero_le _, rfl, rfl, Below.refl _ _⟩
  case round =>
    obtain ⟨k, hk, rfl, hrec, hbel⟩ := hrel
    have HB := Lib.hid hbel
    clear h1' h2'
    by_cases hl : k < l.length
    · have hA := RepRus.on (fun _ h => h) (fun j hj => hbel.block j (hS j hj)) HA.out
      obtain ⟨-, -, b, o, fa, fc, ga, gc, rfl, -, g0, g1, g2, g3, g4, g5, g⟩ := RepRus.at hA k hl
      have G := Lib.hid g
      have HM := Lib.hid (show l[k] ∈ l from List.getElem_mem hl)
      have HD := Lib.hid (List.drop_eq_getElem_cons hl)
      clear hA g
      generalize l[k] = z at *
      have hba := below_alloc wr (.cells #[.string z.label, .string z.head, .slice fa z.args.length fc, .string z.agg, .int .i64 z.at', .slice ga z.body.length gc] 37)
      have HZ := Lib.hid (RepRu.on (fun _ h => h) (fun j hj => hba.block j (Nat.lt_of_lt_of_le (hS j hj) hbel.size)) G.out)
      have HBA := Lib.hid (Below.step hbel hba)
      clear hbel hba
      have hen : ∀ args w, Sem.run Tryz.prog (callFunc 34 args) w = .ok (.enter 34 args) w := fun args w => by kernel_rfl
      go_wp2_with fail
      refine (HT.out _ HBA.out z HM.out fa fc ga gc HZ.out).mono ?_
      rintro e w3 ⟨rfl, hb3⟩
      have HB3 := Lib.hid (Below.step HBA.out hb3)
      clear hb3
      cases hc : R z with
      | true =>
        have HF : Hid (l.all R = (l.drop (k + 1)).all R) := by show _ = _; rw [hrec.out, HD.out, List.all_cons, hc, Bool.true_and]
        clear hc
        go_wp2_with fail
        go_roundw
        case rel => exact ⟨k + 1, by omega, by go_num, HF, HB3.out⟩
        case measure => simp [intOf]; omega
      | false =>
        have HF : Hid (listB least most R l = false) := by show _ = _; rw [HL.out, hrec.out, HD.out, List.all_cons, hc, Bool.false_and]
        clear hc
        go_wp2_with fail
        go_ret
        exact ⟨ret_bool HF.out.symm, HB3.out⟩
    · have HF : Hid (listB least most R l = true) := by show _ = _; rw [HL.out, hrec.out, List.drop_of_length_le (by omega)]; rfl
      go_wp2_with fail
      go_ret
      exact ⟨ret_bool HF.out.symm, HB.out⟩

end Go.Proofs.YtgjemmdhamkngaaGreatDoor
