/-
  PrintApart, ShowApart, ShowPrApart, FitPr, PickFour, RefArity, StrAdd, Relation
-/
import Derived.Test.YtgjemmdhamkngaaGreatDoorK05
import Derived.Test.YtgjemmdhamkngaaGreatDoorK04
import Derived.Test.YtgjemmdhamkngaaGreatDoorK02
import Derived.Lib.IndexBytes
namespace Go.Proofs.YtgjemmdhamkngaaGreatDoor
open Go.RowKit
theorem digit_nat {k : Nat} (h : k < 10) : (UInt8.ofNat (48 + k)).toNat = 48 + k := by
 rw [UInt8.toNat_ofNat']; omega
theorem decDigits_digit : ∀ (u : Nat) (c : UInt8), c ∈ Lib.decDigits u → 48 ≤ c.toNat ∧ c.toNat ≤ 57 := by
 intro u
 induction u using Nat.strongRecOn with
 | ind u ih =>
  intro c hc
  rw [Lib.decDigits] at hc
  split at hc
  ·rename_i h
   rw [List.mem_singleton.1 hc, digit_nat h]; omega
  ·rcases List.mem_append.1 hc with hc | hc
   ·exact ih (u / 10) (by omega) c hc
   ·rw [List.mem_singleton.1 hc, digit_nat (Nat.mod_lt u (by omega))]; omega
theorem u8_ne {c : UInt8} {k : Nat} (hk : k < 256) (h : c.toNat ≠ k) : c ≠ UInt8.ofNat k := fun e => h (by rw [e, UInt8.toNat_ofNat']; omega)
theorem mem_at {s : ByteArray} {c : UInt8} (h : c ∈ s.data.toList) : ∃ (i : Nat) (hi : i < s.size), s[i] = c := by
 obtain ⟨i, hi, e⟩ := List.getElem_of_mem h
 refine ⟨i, by rw [data_length] at hi; exact hi, ?_⟩
 rw [← e]; rfl
theorem name_bytes {s : ByteArray} (h : nameB s = true) : ∀ c, c ∈ s.data.toList → 97 ≤ c.toNat ∧ c.toNat ≤ 122 ∨ 48 ≤ c.toNat ∧ c.toNat ≤ 57 ∨ c.toNat = 95 := fun c hc => by
 obtain ⟨i, hi, rfl⟩ := mem_at hc
 have h1 := (of_decide_eq_true h).2.2 i hi
 simp only [okAt, smallB, digitB, Bool.or_eq_true, Bool.and_eq_true, decide_eq_true_eq, beq_iff_eq] at h1
 omega
end Go.Proofs.YtgjemmdhamkngaaGreatDoor
namespace Go.Proofs.YtgjemmdhamkngaaGreatDoor
open Go.RowKit
def digC (c : UInt8) : Bool := decide (48 ≤ c.toNat ∧ c.toNat ≤ 57)
def wordC (c : UInt8) : Bool := decide (97 ≤ c.toNat ∧ c.toNat ≤ 122 ∨ 65 ≤ c.toNat ∧ c.toNat ≤ 90 ∨ 48 ≤ c.toNat ∧ c.toNat ≤ 57 ∨ c.toNat = 95)
theorem dig_word (c : UInt8) (h : digC c = true) : wordC c = true := by
 simp only [digC, wordC, decide_eq_true_eq] at *; omega
theorem decDigits_dig {u : Nat} {c : UInt8} (h : c ∈ Lib.decDigits u) : digC c = true := decide_eq_true (decDigits_digit u c h)
theorem name_word {s : ByteArray} (h : nameB s = true) : ∀ c ∈ s.data.toList, wordC c = true := fun c hc => by
 have := name_bytes h c hc
 simp only [wordC, decide_eq_true_eq]; omega
theorem var_word {s : ByteArray} (h : varB s = true) : ∀ c ∈ s.data.toList, wordC c = true := fun c hc => by
 obtain ⟨i, hi, rfl⟩ := mem_at hc
 have h1 := (of_decide_eq_true h).2.2 i hi
 simp only [okVar, greatB, smallB, digitB, Bool.or_eq_true, Bool.and_eq_true, decide_eq_true_eq, beq_iff_eq] at h1
 simp only [wordC, decide_eq_true_eq]; omega
theorem fname_word : ∀ k, k < 9 → ∀ c ∈ fname k, wordC c = true := by decide
theorem none_val {x : V} (h : noneB x = true) : x = .mk 0 0 ⟨#[]⟩ [] := by
 cases x with
 | mk k n s l =>
  simp only [noneB, V.kind, V.num, V.text, V.list, Bool.and_eq_true, beq_iff_eq] at h
  obtain ⟨rfl, rfl, h1, h2⟩ := h
  rw [none_of h1, List.isEmpty_iff.1 h2]
theorem right_cases {d : Nat} {k : Int} {s : ByteArray} {x : V} {l : List Tm} (h : rightM (d + 1) (.mk k s x l) = true) :
  (k = 1 ∧ varB s = true ∧ x = .mk 0 0 ⟨#[]⟩ [] ∧ l = [] ∧ showM (.mk k s x l) = s.data.toList) ∨
  (k = 2 ∧ s = ⟨#[]⟩ ∧ valB x = true ∧ l = [] ∧ showM (.mk k s x l) = printB x) ∨
  (k = 3 ∧ x = .mk 0 0 ⟨#[]⟩ [] ∧ 0 ≤ fnArity (fnOf s) ∧ (l.length : Int) = fnArity (fnOf s) ∧ (∀ y ∈ l, rightM d y = true) ∧ showM (.mk k s x l) = s.data.toList ++ (40 :: (sepL [44] (l.map showM) ++ [41]))) ∨
  (k = 4 ∧ x = .mk 0 0 ⟨#[]⟩ [] ∧ opB s = true ∧ l.length = 2 ∧ (∀ y ∈ l, rightM d y = true) ∧ showM (.mk k s x l) = 40 :: (sepL s.data.toList (l.map showM) ++ [41])) := by
 rw [rightM_succ] at h
 rw [showM_mk]
 by_cases e1 : k = 1
 ·rw [if_pos e1] at h ⊢
  simp only [Bool.and_eq_true] at h
  exact .inl ⟨e1, h.1, none_val h.2.1, List.isEmpty_iff.1 h.2.2, rfl⟩
 rw [if_neg e1] at h ⊢
 by_cases e2 : k = 2
 ·rw [if_pos e2] at h ⊢
  simp only [Bool.and_eq_true] at h
  exact .inr (.inl ⟨e2, none_of h.1, h.2.1, List.isEmpty_iff.1 h.2.2, rfl⟩)
 rw [if_neg e2] at h ⊢
 by_cases e3 : k = 3
 ·rw [if_pos e3] at h ⊢
  simp only [Bool.and_eq_true] at h
  obtain ⟨g1, g2, g3⟩ := listB_bounds h.2
  exact .inr (.inr (.inl ⟨e3, none_val h.1, by omega, by omega, g3, rfl⟩))
 rw [if_neg e3] at h ⊢
 by_cases e4 : k = 4
 ·rw [if_pos e4] at h ⊢
  simp only [Bool.and_eq_true] at h
  obtain ⟨g1, g2, g3⟩ := listB_bounds h.2.2
  exact .inr (.inr (.inr ⟨e4, none_val h.2.1, h.1, by omega, g3, rfl⟩))
 ·rw [if_neg e4] at h; cases h
theorem fn_word {s : ByteArray} (h : 0 ≤ fnArity (fnOf s)) : ∀ c ∈ s.data.toList, wordC c = true := by
 obtain ⟨k, hk, -, e⟩ := fnm_of h
 rw [e]; exact fname_word k hk
end Go.Proofs.YtgjemmdhamkngaaGreatDoor
namespace Go.Proofs.YtgjemmdhamkngaaGreatDoor
open Go.RowKit
theorem rel_word {s : ByteArray} (h : relB s = true) : ∀ c ∈ s.data.toList, wordC c = true := name_word (relB_name h)
def showE (x : ByteArray × Tm) : List UInt8 := if x.1.toList.isEmpty = true then showM x.2 else x.1.data.toList ++ (60 :: (showM x.2 ++ [62]))
def elemB (x : ByteArray × Tm) : Prop := rightM 8 x.2 = true ∧ (x.1 = ⟨#[]⟩ ∨ aggNameB x.1 = true)
theorem agg_word {s : ByteArray} (h : aggNameB s = true) : ∀ c ∈ s.data.toList, wordC c = true := by
 rcases aggName_text h with e | e | e <;> rw [e] <;> decide
theorem no_text : (⟨#[]⟩ : ByteArray).toList.isEmpty = true := by rw [isEmpty_size]; rfl
def elemAt (x : Ru) (i : Nat) : ByteArray := if x.agg.toList.isEmpty = true ∨ (i : Int) ≠ x.at' then ⟨#[]⟩ else x.agg
def elems (x : Ru) : List (ByteArray × Tm) := x.args.mapIdx fun i t => (elemAt x i, t)
theorem elems_show (x : Ru) : (x.args.map showM).mapIdx (fun i t => aggAt x i t) = (elems x).map showE := by
 apply List.ext_getElem
 ·simp [elems]
 ·intro i h1 h2
  simp only [List.getElem_mapIdx, List.getElem_map, elems]
  rw [aggAt, showE, elemAt]
  by_cases c : x.agg.toList.isEmpty = true ∨ (i : Int) ≠ x.at'
  ·rw [if_pos c, if_pos c, if_pos no_text]
  ·rw [if_neg c, if_neg c, if_neg (fun e => c (.inl e))]
theorem elems_right {x : Ru} (h : aggB x = true) (hr : ∀ y ∈ x.args, rightM 8 y = true) : ∀ y ∈ elems x, elemB y := fun y hy => by
 obtain ⟨i, hi, rfl⟩ := List.mem_mapIdx.1 hy
 refine ⟨hr _ (List.getElem_mem hi), ?_⟩
 show elemAt x i = _ ∨ aggNameB (elemAt x i) = true
 unfold elemAt
 split
 ·exact .inl rfl
 ·rename_i c
  rw [aggB, if_neg (fun e => c (.inl e))] at h
  simp only [Bool.and_eq_true] at h
  exact .inr h.1
inductive Ln where
 | d (x : De) | f (x : Fa) | r (x : Ru)
def showLn : Ln → List UInt8
 | .d x => showDe x
 | .f x => showFa x
 | .r x => showRu x
def lnB : Ln → Bool
 | .d x => deB x
 | .f x => faB x
 | .r x => ruB x
def matL : List UInt8 := [109, 97, 116, 101, 114, 105, 97, 108, 105, 122, 101]
theorem mat_word : ∀ c ∈ matL, wordC c = true := by decide
theorem de_form {x : De} (h : deB x = true) : relB x.name = true ∧ showDe x = matL ++ (40 :: (x.name.data.toList ++ (44 :: (Lib.itoa x.arity ++ [41, 46])))) := by
 rw [deB] at h
 simp only [Bool.and_eq_true] at h
 exact ⟨h.1, rfl⟩
theorem fa_form {x : Fa} (h : faB x = true) : relB x.name = true ∧ x.args ≠ [] ∧ (∀ y ∈ x.args, rightV 4 y = true) ∧ showFa x = x.name.data.toList ++ (40 :: 64 :: (sepL [44] (x.args.map printB) ++ [41, 46])) := by
 rw [faB] at h
 simp only [Bool.and_eq_true] at h
 obtain ⟨g1, g2, g3⟩ := listB_bounds h.2.1
 exact ⟨h.1, fun e => by rw [e] at g1; simp at g1, g3, by simp [showFa, showAtom]⟩
theorem ru_form {x : Ru} (h : ruB x = true) : relB x.label = true ∧ relB x.head = true ∧ aggB x = true ∧ elems x ≠ [] ∧ (∀ y ∈ elems x, elemB y) ∧ x.body ≠ [] ∧ (∀ y ∈ x.body, liB y = true) ∧
  showRu x = x.label.data.toList ++ (32 :: (x.head.data.toList ++ (40 :: 64 :: (sepL [44] ((elems x).map showE) ++ (41 :: 32 :: 58 :: 45 :: 32 :: (sepL [44, 32] (x.body.map showLi) ++ [46])))))) := by
 rw [ruB, atomB] at h
 simp only [Bool.and_eq_true] at h
 obtain ⟨h0, ⟨h1, h2, -⟩, h3, h4⟩ := h
 obtain ⟨g1, g2, g3⟩ := listB_bounds h2
 obtain ⟨g4, g5, g6⟩ := listB_bounds h4
 refine ⟨h0, h1, h3, fun e => ?_, elems_right h3 g3, fun e => by rw [e] at g4; simp at g4, g6, ?_⟩
 ·have := congrArg List.length e
  simp [elems] at this
  rw [this] at g1; simp at g1
 ·rw [showRu, showHead, showAtom, elems_show]
  simp
def linesIn (x : Pr) : List Ln := x.decls.map .d ++ (x.facts.map .f ++ x.rules.map .r)
theorem showPr_lines (x : Pr) : showPr x = linesOf ((linesIn x).map showLn) := by
 simp only [showPr, linesIn, linesOf, List.map_append, List.flatten_append, List.map_map]
 rfl
theorem lines_right {x : Pr} (h : prB x = true) : ∀ y ∈ linesIn x, lnB y = true := fun y hy => by
 rw [prB] at h
 simp only [Bool.and_eq_true] at h
 obtain ⟨-, -, g2⟩ := listB_bounds h.1
 obtain ⟨-, -, g4⟩ := listB_bounds h.2.1
 obtain ⟨-, -, g6⟩ := listB_bounds h.2.2
 simp only [linesIn, List.mem_append, List.mem_map] at hy
 rcases hy with ⟨z, hz, rfl⟩ | ⟨z, hz, rfl⟩ | ⟨z, hz, rfl⟩
 ·exact g2 z hz
 ·exact g4 z hz
 ·exact g6 z hz
end Go.Proofs.YtgjemmdhamkngaaGreatDoor
namespace Go.Proofs.YtgjemmdhamkngaaGreatDoor
open Go.RowKit
def nV : V := .mk 0 0 ⟨#[]⟩ []
def relOf (s : ByteArray) : ByteArray := if fnB ⟨(nameOf s).toArray⟩ = true ∨ declB ⟨(nameOf s).toArray⟩ = true then ⟨#[110]⟩ else ⟨(nameOf s).toArray⟩
def varOf (s : ByteArray) : ByteArray := ⟨(86 :: (nameOf s).tail).toArray⟩
theorem rel_n : relB ⟨#[110]⟩ = true := by kernel_rfl
theorem relOf_right (s : ByteArray) : relB (relOf s) = true := by
 unfold relOf
 split
 ·exact rel_n
 ·rename_i h
  rw [relB, valueNames.name_of]
  cases h1 : fnB ⟨(nameOf s).toArray⟩ with
  | true => exact absurd (.inl h1) h
  | false =>
   cases h2 : declB ⟨(nameOf s).toArray⟩ with
   | true => exact absurd (.inr h2) h
   | false => rfl
theorem varOf_right (s : ByteArray) : varB (varOf s) = true := by
 have hn : (varOf s).size = (nameOf s).length := by
  rw [varOf, size_mk, List.length_cons, List.length_tail, nameOf_length]; omega
 have hl := nameOf_length s
 refine varB_true (by omega) (by omega) (fun i hi => ?_)
 have hi' : i < (86 :: (nameOf s).tail).length := by rw [varOf, size_mk] at hi; exact hi
 have e : (varOf s)[i] = (86 :: (nameOf s).tail)[i] := valueNames.ba_get (86 :: (nameOf s).tail) i hi hi'
 refine (congrArg (fun c : UInt8 => okVar i (c.toNat : Int)) e).trans ?_
 match i, hi' with
 | 0, _ => simp only [List.getElem_cons_zero]; decide
 | i + 1, h =>
  have h2 : i + 1 < (nameOf s).length := by rw [List.length_cons, List.length_tail] at h; omega
  have h1 := valueNames.nameOf_ok s (i + 1) h2
  rw [List.getElem_cons_succ, List.getElem_tail]
  have hz : decide (i + 1 = 0) = false := by simp
  simp only [okAt, okVar, hz, Bool.not_false, Bool.true_and, Bool.or_eq_true] at h1 ⊢
  exact .inr h1
theorem relOf_size (s : ByteArray) : (relOf s).size ≤ 16 := relB_le (relOf_right s)
theorem varOf_size (s : ByteArray) : (varOf s).size ≤ 16 := varB_le (varOf_right s)
def fitVal (x : V) : V := if (fitV 4 x).kind = 3 then .mk 3 (fitV 4 x).num (relOf (fitV 4 x).text) (fitV 4 x).list else fitV 4 x
theorem rel_not_fn {s : ByteArray} (h : relB s = true) : fnB s = false := by
 cases e : fnB s with
 | false => rfl
 | true => rw [relB, e] at h; simp at h
theorem fitVal_right (x : V) : valB (fitVal x) = true := by
 have h := fit_right 4 x
 unfold fitVal
 split
 ·rename_i hk
  cases hv : fitV 4 x with
  | mk k n s l =>
   rw [hv] at h hk
   simp only [V.kind] at hk
   subst hk
   rw [rightV_mk] at h
   simp only [V.num, V.text, V.list]
   rcases baseB_cases h with ⟨e, _⟩ | ⟨e, _⟩ | ⟨_, rfl, rfl, _⟩ | ⟨e, _⟩
   case inr.inr.inl =>
    have h1 : rightV 4 (.mk 3 0 (relOf s) []) = true := by
     rw [rightV_mk]; simp [baseB, relB_name (relOf_right s)]
    rw [valB, h1]
    simp only [V.kind, V.text, rel_not_fn (relOf_right s)]
    rfl
   all_goals exact absurd e (by decide)
 ·rename_i hk
  rw [valB, h]
  have : ((fitV 4 x).kind == 3) = false := by simpa using hk
  rw [this]; rfl
def fitFnN (i : Nat) : Nat := [0, 4, 3, 5, 8, 2].getD i 0
def fitFn (i : Nat) : ByteArray := ⟨(fname (fitFnN i)).toArray⟩
def fitOp (i : Nat) : ByteArray := ⟨#[[43, 45, 42].getD i 43]⟩
def fitFnAt (s : ByteArray) (k : Int) : Nat := (pickZ (wrap64 ((s.size : Int) + k)) 6).toNat
def fitLeaf (k : Int) (s : ByteArray) (x : V) : Tm := if k = 0 then .mk 1 (varOf s) nV [] else .mk 2 ⟨#[]⟩ (fitVal x) []
def fitArity (i : Nat) : Nat := (fnArity (fitFnN i)).toNat
def fitTm : Nat → Tm → Tm
 | 0, .mk k s x _ => fitLeaf (pickZ k 4 % 2) s x
 | d + 1, .mk k s x l =>
  if d = 0 ∨ l.length < 2 then fitLeaf (pickZ k 4 % 2) s x
  else if pickZ k 4 = 0 then fitLeaf 0 s x
  else if pickZ k 4 = 1 then fitLeaf 1 s x
  else if pickZ k 4 = 2 then .mk 3 (fitFn (fitFnAt s k)) nV ((l.take (fitArity (fitFnAt s k))).map (fitTm d))
  else .mk 4 (fitOp (pickZ (s.size : Int) 3).toNat) nV ((l.take 2).map (fitTm d))
theorem fitFnAt_lt (s : ByteArray) (k : Int) : fitFnAt s k < 6 := by
 have := pickZ_bd (wrap64 ((s.size : Int) + k)) 6 (by omega)
 unfold fitFnAt; omega
theorem fitFn_of : ∀ i, i < 6 → fnOf (fitFn i) = fitFnN i := by
 intro i hi
 match i, hi with
 | 0, _ => simp [fitFn, fitFnN, fname, fnOf, Lib.toList_data]
 | 1, _ => simp [fitFn, fitFnN, fname, fnOf, Lib.toList_data]
 | 2, _ => simp [fitFn, fitFnN, fname, fnOf, Lib.toList_data]
 | 3, _ => simp [fitFn, fitFnN, fname, fnOf, Lib.toList_data]
 | 4, _ => simp [fitFn, fitFnN, fname, fnOf, Lib.toList_data]
 | 5, _ => simp [fitFn, fitFnN, fname, fnOf, Lib.toList_data]
theorem fitArity_is : ∀ i, i < 6 → fnArity (fitFnN i) = (fitArity i : Int) ∧ 1 ≤ fitArity i ∧ fitArity i ≤ 2 := by decide
theorem nV_none : noneB nV = true := by kernel_rfl
theorem fitOp_right (n : Int) : opB (fitOp (pickZ n 3).toNat) = true := by
 have := pickZ_bd n 3 (by omega)
 generalize hk : (pickZ n 3).toNat = k
 have hk3 : k < 3 := by omega
 match k, hk3 with
 | 0, _ => simp [fitOp, opB, Lib.toList_data]
 | 1, _ => simp [fitOp, opB, Lib.toList_data]
 | 2, _ => simp [fitOp, opB, Lib.toList_data]
theorem leaf_right (d : Nat) (k : Int) (s : ByteArray) (x : V) : rightM (d + 1) (fitLeaf k s x) = true := by
 unfold fitLeaf
 split
 ·rw [rightM_succ, if_pos rfl, varOf_right, nV_none]; rfl
 ·rw [rightM_succ, if_neg (by decide), if_pos rfl, fitVal_right, none_empty]; rfl
theorem fitTm_right : ∀ (d : Nat) (t : Tm), rightM (d + 1) (fitTm (d + 1) t) = true
 | d, .mk k s x l => by
  rw [fitTm]
  split
  ·exact leaf_right d _ s x
  rename_i h
  have hd : d ≠ 0 := fun e => h (.inl e)
  have hl : 2 ≤ l.length := by
   by_cases hl : l.length < 2
   ·exact absurd (.inr hl) h
   ·omega
  match d, hd with
  | d + 1, _ =>
  have sub : ∀ m, m ≤ 2 → ∀ y ∈ (l.take m).map (fitTm (d + 1)), rightM (d + 1) y = true := fun m _ y hy => by
   obtain ⟨z, _, rfl⟩ := List.mem_map.1 hy
   exact fitTm_right d z
  split
  ·exact leaf_right _ _ s x
  split
  ·exact leaf_right _ _ s x
  split
  ·have hlt := fitFnAt_lt s k
   obtain ⟨a1, a2, a3⟩ := fitArity_is _ hlt
   rw [rightM_succ, if_neg (by decide), if_neg (by decide), if_pos rfl, nV_none, fitFn_of _ hlt, a1, listB_some (by rw [List.length_map, List.length_take]; omega) (by rw [List.length_map, List.length_take]; omega)]
   rw [Bool.true_and, List.all_eq_true]
   exact sub _ a3
  ·rw [rightM_succ, if_neg (by decide), if_neg (by decide), if_neg (by decide), if_pos rfl, fitOp_right, nV_none, listB_some (by rw [List.length_map, List.length_take]; omega) (by rw [List.length_map, List.length_take]; omega)]
   rw [Bool.true_and, Bool.true_and, List.all_eq_true]
   exact sub 2 (Nat.le_refl _)
def tmS : Tm := .mk 1 ⟨#[83]⟩ nV []
def tmX : Tm := .mk 1 ⟨#[88]⟩ nV []
def fitHead (l : List Tm) : Tm := match l with
 | [] => tmS
 | t :: _ => if pickZ t.kind 4 = 1 then .mk 2 ⟨#[]⟩ (.mk 3 0 (relOf t.name) []) [] else tmS
def fitArgs (l : List Tm) : List Tm := fitHead l :: ((l.take 8).drop 1).map (fitTm 8)
def fitAt (l : List Tm) (i : Nat) : Tm := match l[i]? with
 | some t => fitTm 8 t
 | none => tmX
theorem tmS_right : rightM 8 tmS = true := by kernel_rfl
theorem tmX_right : rightM 8 tmX = true := by kernel_rfl
theorem addr_right (s : ByteArray) : valB (.mk 3 0 (relOf s) []) = true := by
 have h1 : rightV 4 (.mk 3 0 (relOf s) []) = true := by
  rw [rightV_mk]; simp [baseB, relB_name (relOf_right s)]
 rw [valB, h1]
 simp only [V.kind, V.text, rel_not_fn (relOf_right s)]
 rfl
theorem fitHead_right (l : List Tm) : rightM 8 (fitHead l) = true ∧ placeB (fitHead l) = true := by
 unfold fitHead
 split
 ·exact ⟨tmS_right, by kernel_rfl⟩
 ·split
  ·rename_i t _ _
   refine ⟨by rw [rightM_succ, if_neg (by decide), if_pos rfl, addr_right, none_empty]; rfl, rfl⟩
  ·exact ⟨tmS_right, by kernel_rfl⟩
theorem fitArgs_len (l : List Tm) : 1 ≤ (fitArgs l).length ∧ (fitArgs l).length ≤ 8 := by
 simp only [fitArgs, List.length_cons, List.length_map, List.length_drop, List.length_take]; omega
theorem fitArgs_right (l : List Tm) : listB 1 8 (rightM 8) (fitArgs l) = true ∧ headB (fitArgs l) = true := by
 obtain ⟨h1, h2⟩ := fitArgs_len l
 refine ⟨?_, (fitHead_right l).2⟩
 rw [listB_some (by omega) (by omega), List.all_eq_true]
 intro y hy
 rcases List.mem_cons.1 hy with rfl | hy
 ·exact (fitHead_right l).1
 ·obtain ⟨z, _, rfl⟩ := List.mem_map.1 hy
  exact fitTm_right 7 z
theorem fitAt_right (l : List Tm) (i : Nat) : rightM 8 (fitAt l i) = true := by
 unfold fitAt
 split
 ·exact fitTm_right 7 _
 ·exact tmX_right
theorem atom_right (s : ByteArray) (l : List Tm) : atomB (relOf s) (fitArgs l) = true := by
 rw [atomB, relOf_right, (fitArgs_right l).1, (fitArgs_right l).2]; rfl
def fitCmp (i : Nat) : ByteArray := ⟨([[61, 61], [33, 61], [60], [60, 61], [62], [62, 61]].getD i []).toArray⟩
def fitLi (x : Li) : Li :=
 if pickZ x.kind 4 = 0 then ⟨1, relOf x.name, fitArgs x.args⟩
 else if pickZ x.kind 4 = 1 then ⟨2, relOf x.name, fitArgs x.args⟩
 else if pickZ x.kind 4 = 2 then ⟨3, fitCmp (pickZ (x.name.size : Int) 6).toNat, [fitAt x.args 0, fitAt x.args 1]⟩
 else ⟨4, varOf x.name, [fitAt x.args 0]⟩
theorem fitCmp_right (n : Int) : cmpB (fitCmp (pickZ n 6).toNat) = true := by
 have := pickZ_bd n 6 (by omega)
 generalize hk : (pickZ n 6).toNat = k
 have hk3 : k < 6 := by omega
 match k, hk3 with
 | 0, _ => simp [fitCmp, cmpB, Lib.toList_data]
 | 1, _ => simp [fitCmp, cmpB, Lib.toList_data]
 | 2, _ => simp [fitCmp, cmpB, Lib.toList_data]
 | 3, _ => simp [fitCmp, cmpB, Lib.toList_data]
 | 4, _ => simp [fitCmp, cmpB, Lib.toList_data]
 | 5, _ => simp [fitCmp, cmpB, Lib.toList_data]
theorem fitLi_right (x : Li) : liB (fitLi x) = true := by
 unfold fitLi
 split
 ·rw [liB, if_pos rfl]; exact atom_right _ _
 split
 ·rw [liB, if_neg (by show ¬ (2 : Int) = 1; decide), if_pos rfl]; exact atom_right _ _
 split
 ·rw [liB, if_neg (by show ¬ (3 : Int) = 1; decide), if_neg (by show ¬ (3 : Int) = 2; decide), if_pos rfl]
  simp only [fitCmp_right, Bool.true_and]
  rw [listB_some (by simp) (by simp)]
  simp [fitAt_right]
 ·rw [liB, if_neg (by show ¬ (4 : Int) = 1; decide), if_neg (by show ¬ (4 : Int) = 2; decide), if_neg (by show ¬ (4 : Int) = 3; decide), if_pos rfl]
  simp only [varOf_right, Bool.true_and]
  rw [listB_some (by simp) (by simp)]
  simp [fitAt_right]
def fitDe (d : De) : De := ⟨relOf d.name, 1 + pickZ d.arity 8⟩
def aV : V := .mk 3 0 ⟨#[97]⟩ []
def fitFa (t : Fa) : Fa := ⟨relOf t.name, aV :: (t.args.take 7).map (fitV 4)⟩
def fitAggN (i : Nat) : ByteArray := ⟨([[109, 105, 110], [109, 97, 120], [99, 111, 117, 110, 116]].getD i []).toArray⟩
def fitBody (l : List Li) : List Li := if l = [] then [fitLi ⟨0, ⟨#[]⟩, []⟩] else (l.take 8).map fitLi
def fitRu (r : Ru) : Ru :=
 if 1 < (fitArgs r.args).length ∧ pickZ r.at' 2 = 1 then
  ⟨relOf r.label, relOf r.head, (fitArgs r.args).set (1 + pickZ r.at' ((fitArgs r.args).length - 1)).toNat (.mk 1 (varOf r.agg) nV []), fitAggN (pickZ r.at' 3).toNat, 1 + pickZ r.at' ((fitArgs r.args).length - 1), fitBody r.body⟩
 else ⟨relOf r.label, relOf r.head, fitArgs r.args, ⟨#[]⟩, 0, fitBody r.body⟩
def fitPr (p : Pr) : Pr := ⟨(p.decls.take 64).map fitDe, (p.facts.take 64).map fitFa, (p.rules.take 64).map fitRu⟩
theorem fitDe_right (d : De) : deB (fitDe d) = true := by
 have := pickZ_bd d.arity 8 (by omega)
 rw [deB, fitDe, relOf_right, decide_eq_true (by show (1 : Int) ≤ 1 + pickZ d.arity 8; omega), decide_eq_true (by show 1 + pickZ d.arity 8 ≤ (8 : Int); omega)]; rfl
theorem aV_right : rightV 4 aV = true := by kernel_rfl
theorem fitFa_right (t : Fa) : faB (fitFa t) = true := by
 rw [faB, fitFa, relOf_right]
 simp only [Bool.true_and]
 rw [listB_some (by simp; omega) (by simp; omega)]
 have : (aV :: (t.args.take 7).map (fitV 4)).all (rightV 4) = true := by
  rw [List.all_eq_true]
  intro y hy
  rcases List.mem_cons.1 hy with rfl | hy
  ·exact aV_right
  ·obtain ⟨z, _, rfl⟩ := List.mem_map.1 hy
   exact fit_right 4 z
 rw [this]; rfl
theorem fitBody_right (l : List Li) : listB 1 8 liB (fitBody l) = true := by
 unfold fitBody
 split
 ·rw [listB_some (by simp) (by simp)]; simp [fitLi_right]
 ·rename_i h
  have hl : 1 ≤ l.length := List.length_pos_iff.2 h
  rw [listB_some (by simp; omega) (by simp; omega), List.all_eq_true]
  intro y hy
  obtain ⟨z, _, rfl⟩ := List.mem_map.1 hy
  exact fitLi_right z
theorem fitAgg_right (n : Int) : aggNameB (fitAggN (pickZ n 3).toNat) = true ∧ (fitAggN (pickZ n 3).toNat).toList.isEmpty = false := by
 have := pickZ_bd n 3 (by omega)
 generalize hk : (pickZ n 3).toNat = k
 have hk3 : k < 3 := by omega
 match k, hk3 with
 | 0, _ => exact ⟨by kernel_rfl, by kernel_rfl⟩
 | 1, _ => exact ⟨by kernel_rfl, by kernel_rfl⟩
 | 2, _ => exact ⟨by kernel_rfl, by kernel_rfl⟩
theorem headB_set {l : List Tm} {i : Nat} {t : Tm} (hi : i ≠ 0) : headB (l.set i t) = headB l := by
 cases l with
 | nil => rfl
 | cons x l =>
  match i, hi with
  | i + 1, _ => rfl
theorem var_right (s : ByteArray) : rightM 8 (.mk 1 (varOf s) nV []) = true := by
 rw [rightM_succ, if_pos rfl, varOf_right, nV_none]; rfl
theorem fitRu_right (r : Ru) : ruB (fitRu r) = true := by
 obtain ⟨h1, h2⟩ := fitArgs_right r.args
 obtain ⟨l1, l2⟩ := fitArgs_len r.args
 unfold fitRu
 split
 ·rename_i h
  obtain ⟨hlt, -⟩ := h
  have hb := pickZ_bd r.at' ((fitArgs r.args).length - 1) (by omega)
  generalize hk : pickZ r.at' ((fitArgs r.args).length - 1) = k at *
  obtain ⟨a1, a2⟩ := fitAgg_right r.at'
  have hset : listB 1 8 (rightM 8) ((fitArgs r.args).set (1 + k).toNat (.mk 1 (varOf r.agg) nV [])) = true := by
   obtain ⟨g1, g2, g3⟩ := listB_bounds h1
   rw [listB_some (by rw [List.length_set]; omega) (by rw [List.length_set]; omega), List.all_eq_true]
   intro y hy
   rcases List.mem_or_eq_of_mem_set hy with hy | rfl
   ·exact g3 y hy
   ·exact var_right _
  rw [ruB, atomB, aggB]
  simp only
  rw [relOf_right, relOf_right, hset, headB_set (by omega), h2, if_neg (by rw [a2]; decide), a1, fitBody_right, decide_eq_true (by omega : (1 : Int) ≤ 1 + k), decide_eq_true (by rw [List.length_set]; omega)]
  have hka : kindAt ((fitArgs r.args).set (1 + k).toNat (.mk 1 (varOf r.agg) nV [])) (1 + k) = 1 := by
   unfold kindAt
   rw [List.getElem?_set_self (by omega)]
   rfl
  rw [hka]; rfl
 ·rw [ruB, aggB]
  simp only
  rw [if_pos none_empty, relOf_right, atom_right, fitBody_right]; rfl
theorem listB_upTo' {α : Type} {R : α → Bool} {l : List α} (h2 : (l.length : Int) ≤ 64) : listB 0 64 R l = l.all R := listB_some (by omega) h2
theorem fitPr_right (p : Pr) : prB (fitPr p) = true := by
 rw [prB, fitPr]
 simp only
 rw [listB_upTo' (by simp; omega), listB_upTo' (by simp; omega), listB_upTo' (by simp; omega)]
 have a1 : ((p.decls.take 64).map fitDe).all deB = true := by
  rw [List.all_eq_true]; intro y hy; obtain ⟨z, _, rfl⟩ := List.mem_map.1 hy; exact fitDe_right z
 have a2 : ((p.facts.take 64).map fitFa).all faB = true := by
  rw [List.all_eq_true]; intro y hy; obtain ⟨z, _, rfl⟩ := List.mem_map.1 hy; exact fitFa_right z
 have a3 : ((p.rules.take 64).map fitRu).all ruB = true := by
  rw [List.all_eq_true]; intro y hy; obtain ⟨z, _, rfl⟩ := List.mem_map.1 hy; exact fitRu_right z
 rw [a1, a2, a3]; rfl
end Go.Proofs.YtgjemmdhamkngaaGreatDoor
namespace Go.Proofs.YtgjemmdhamkngaaGreatDoor
open Go.RowKit
theorem pick4_any (c n : Int) (w : World) (hc : I64 c) (hn : 1 ≤ n) (hn2 : n ≤ 9223372036854775807) :
  Calls Tryz.prog 28 #[.int .i64 c, .int .i64 n] w fun e w' => e = .returned (.int .i64 (pickZ c n)) ∧ w = w' := by
 obtain ⟨h1, h2⟩ := hc
 by_cases h : c < 0
 ·have HF : Hid (pickZ c n = (-(c + 1)) % n) := by show _ = _; rw [pickZ, if_pos h]
  have h3 : 0 ≤ -(c + 1) := by omega
  have hne : (n == 0) = false := beq_eq_false_iff_ne.2 (by omega)
  go_enter Tryz.func28, Tryz.ntmps28
  go_wp2_with fail
  go_ret
  refine ⟨?_, rfl⟩
  rw [HF.out]
  refine ret_int' ?_
  rw [← Int.neg_tmod, Int.tmod_eq_emod_of_nonneg h3]
 ·have HF : Hid (pickZ c n = c % n) := by show _ = _; rw [pickZ, if_neg h]
  have h3 : 0 ≤ c := by omega
  have hne : (n == 0) = false := beq_eq_false_iff_ne.2 (by omega)
  go_enter Tryz.func28, Tryz.ntmps28
  go_wp2_with fail
  go_ret
  refine ⟨?_, rfl⟩
  rw [HF.out]
  rfl
end Go.Proofs.YtgjemmdhamkngaaGreatDoor
namespace Go.Proofs.YtgjemmdhamkngaaGreatDoor
open Go.RowKit
def ArPost (k : Nat) (w : World) (e : Ending) (w' : World) : Prop := e = .returned (.int .i64 (fnArity k)) ∧ w = w'
set_option maxRecDepth 100000 in
set_option maxHeartbeats 2000000 in
theorem refArity_any (s : ByteArray) (w : World) : Calls Tryz.prog 63 #[.string s] w (ArPost (fnOf s) w) := by
 unfold fnOf
 cases h0 : (s.toList == [102, 95, 99, 111, 110, 115]) with
 | true =>
  rw [if_pos rfl]
  go_enter Tryz.func63, Tryz.ntmps63
  go_wp2_with fail
  go_ret
  exact ⟨rfl, rfl⟩
 | false =>
 rw [if_neg (by decide)]
 cases h1 : (s.toList == [102, 95, 97, 112, 112, 101, 110, 100]) with
 | true =>
  rw [if_pos rfl]
  go_enter Tryz.func63, Tryz.ntmps63
  go_wp2_with fail
  go_ret
  exact ⟨rfl, rfl⟩
 | false =>
 rw [if_neg (by decide)]
 cases h2 : (s.toList == [102, 95, 99, 111, 110, 99, 97, 116]) with
 | true =>
  rw [if_pos rfl]
  go_enter Tryz.func63, Tryz.ntmps63
  go_wp2_with fail
  go_ret
  exact ⟨rfl, rfl⟩
 | false =>
 rw [if_neg (by decide)]
 cases h3 : (s.toList == [102, 95, 109, 101, 109, 98, 101, 114]) with
 | true =>
  rw [if_pos rfl]
  go_enter Tryz.func63, Tryz.ntmps63
  go_wp2_with fail
  go_ret
  exact ⟨rfl, rfl⟩
 | false =>
 rw [if_neg (by decide)]
 cases h4 : (s.toList == [102, 95, 115, 105, 122, 101]) with
 | true =>
  rw [if_pos rfl]
  go_enter Tryz.func63, Tryz.ntmps63
  go_wp2_with fail
  go_ret
  exact ⟨rfl, rfl⟩
 | false =>
 rw [if_neg (by decide)]
 cases h5 : (s.toList == [102, 95, 102, 105, 114, 115, 116]) with
 | true =>
  rw [if_pos rfl]
  go_enter Tryz.func63, Tryz.ntmps63
  go_wp2_with fail
  go_ret
  exact ⟨rfl, rfl⟩
 | false =>
 rw [if_neg (by decide)]
 cases h6 : (s.toList == [102, 95, 108, 97, 115, 116]) with
 | true =>
  rw [if_pos rfl]
  go_enter Tryz.func63, Tryz.ntmps63
  go_wp2_with fail
  go_ret
  exact ⟨rfl, rfl⟩
 | false =>
 rw [if_neg (by decide)]
 cases h7 : (s.toList == [102, 95, 114, 101, 115, 116]) with
 | true =>
  rw [if_pos rfl]
  go_enter Tryz.func63, Tryz.ntmps63
  go_wp2_with fail
  go_ret
  exact ⟨rfl, rfl⟩
 | false =>
 rw [if_neg (by decide)]
 cases h8 : (s.toList == [102, 95, 114, 101, 118, 101, 114, 115, 101]) with
 | true =>
  rw [if_pos rfl]
  go_enter Tryz.func63, Tryz.ntmps63
  go_wp2_with fail
  go_ret
  exact ⟨rfl, rfl⟩
 | false =>
 rw [if_neg (by decide)]
 go_enter Tryz.func63, Tryz.ntmps63
 go_wp2_with fail
 go_ret
 exact ⟨rfl, rfl⟩
end Go.Proofs.YtgjemmdhamkngaaGreatDoor
namespace Go.Proofs.YtgjemmdhamkngaaGreatDoor
open Go.RowKit
theorem strAdd (a b : ByteArray) (h : a.size + b.size ≤ 140737488355328) : Op.stringOp .add a b = pure (.string (a ++ b)) := by
 simp only [Op.stringOp]
 rw [if_neg (by rw [show IntKind.i64.max = 9223372036854775807 from by decide]; omega)]
theorem ret_ba {a b : ByteArray} (h : a = b) : Ending.returned (.string a) = .returned (.string b) := by rw [h]
end Go.Proofs.YtgjemmdhamkngaaGreatDoor
namespace Go.Proofs.YtgjemmdhamkngaaGreatDoor
open Go.RowKit
theorem Relation_any (s : ByteArray) (w : World) (hs : s.size ≤ maxLen) : Calls Tryz.prog 57 #[.string s] w fun e w' => e = .returned (.string (relOf s)) ∧ Below w.heap.size w w' := by
 have HS := Lib.hid hs
 clear hs
 obtain ⟨n, hn⟩ : ∃ n : ByteArray, ⟨(nameOf s).toArray⟩ = n := ⟨_, rfl⟩
 have HN := Lib.hid hn
 have HR : Hid (relOf s = if fnB n = true ∨ declB n = true then ⟨#[110]⟩ else n) := by show _ = _; rw [relOf, hn]
 clear hn
 cases h1 : fnB n with
 | true =>
  have h1' := of_decide_eq_true h1
  have HF : Hid (relOf s = ⟨#[110]⟩) := by show _ = _; rw [HR.out, if_pos (.inl h1)]
  have hge : decide (fnArity (fnOf n) ≥ 0) = true := decide_eq_true h1'
  clear h1 h1' HR
  go_enter Tryz.func57, Tryz.ntmps57
  go_wp2_with fail
  refine (lawName_any s w HS.out).mono ?_
  rw [HN.out]
  rintro e w2 ⟨rfl, hb⟩
  have B2 := Lib.hid hb
  clear hb
  go_wp2_with fail
  refine (refArity_any n _).mono ?_
  rintro e w3 ⟨rfl, rfl⟩
  go_wp2_with fail
  go_ret
  exact ⟨ret_ba HF.out.symm, B2.out⟩
 | false =>
  have h1' := of_decide_eq_false h1
  have hge : decide (fnArity (fnOf n) ≥ 0) = false := decide_eq_false h1'
  cases h2 : declB n with
  | true =>
   have HF : Hid (relOf s = ⟨#[110]⟩) := by show _ = _; rw [HR.out, if_pos (.inr h2)]
   rw [declB] at h2
   clear h1 h1' HR
   go_enter Tryz.func57, Tryz.ntmps57
   go_wp2_with fail
   refine (lawName_any s w HS.out).mono ?_
   rw [HN.out]
   rintro e w2 ⟨rfl, hb⟩
   have B2 := Lib.hid hb
   clear hb
   go_wp2_with fail
   refine (refArity_any n _).mono ?_
   rintro e w3 ⟨rfl, rfl⟩
   go_wp2_with fail
   go_ret
   exact ⟨ret_ba HF.out.symm, B2.out⟩
  | false =>
   have HF : Hid (relOf s = n) := by show _ = _; rw [HR.out, if_neg (by rw [h1, h2]; simp)]
   rw [declB] at h2
   clear h1 h1' HR
   go_enter Tryz.func57, Tryz.ntmps57
   go_wp2_with fail
   refine (lawName_any s w HS.out).mono ?_
   rw [HN.out]
   rintro e w2 ⟨rfl, hb⟩
   have B2 := Lib.hid hb
   clear hb
   go_wp2_with fail
   refine (refArity_any n _).mono ?_
   rintro e w3 ⟨rfl, rfl⟩
   go_wp2_with fail
   go_ret
   exact ⟨ret_ba HF.out.symm, B2.out⟩
theorem Variable_any (s : ByteArray) (w : World) (hs : s.size ≤ maxLen) : Calls Tryz.prog 60 #[.string s] w fun e w' => e = .returned (.string (varOf s)) ∧ Below w.heap.size w w' := by
 have HS := Lib.hid hs
 clear hs
 have hl := nameOf_length s
 obtain ⟨n, hn⟩ : ∃ n : ByteArray, ⟨(nameOf s).toArray⟩ = n := ⟨_, rfl⟩
 have hnz : n.size = 1 + min s.size 15 := by rw [← hn, size_mk, hl]
 have HN := Lib.hid hn
 have HF : Hid (varOf s = ⟨#[86]⟩ ++ n.extract 1 n.size) := by
  show _ = _
  rw [varOf]
  apply ByteArray.ext
  rw [ByteArray.data_append]
  apply Array.toList_inj.1
  have e1 : (n.extract 1 n.size).data.toList = n.data.toList.drop 1 := Lib.extract_to_end n 1
  rw [Array.toList_append, e1, ← hn]
  simp
 have hz : (n.extract 1 n.size).size = n.size - 1 := by rw [ByteArray.size_extract]; omega
 have y1 := strAdd ⟨#[86]⟩ (n.extract 1 n.size) (by rw [hz]; show 1 + (n.size - 1) ≤ _; omega)
 have h1 : (1 : Int) ≤ (n.size : Int) := by omega
 clear hn hl hnz hz
 go_enter Tryz.func60, Tryz.ntmps60
 go_wp2_with fail
 refine (lawName_any s w HS.out).mono ?_
 rw [HN.out]
 rintro e w2 ⟨rfl, hb⟩
 have B2 := Lib.hid hb
 clear hb
 go_wp2_with fail
 go_ret
 exact ⟨ret_ba HF.out.symm, B2.out⟩
end Go.Proofs.YtgjemmdhamkngaaGreatDoor
