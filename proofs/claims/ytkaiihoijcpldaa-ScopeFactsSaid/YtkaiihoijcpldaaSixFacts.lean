/-
  Of ScopeFacts: facts that there may not be, a relation that is told twice, a fact more.
-/
import Derived.Test.YtkaiihoijcpldaaW11
import Derived.Test.YtkaiihoijcpldaaW15
namespace Go.Proofs.Ytkaiihoijcpldaa
open Go.RowKit

theorem check_bad {p : Pr} (hp : prB p = true) (h : ¬ (onceB [] p.decls = true ∧ p.facts.all (factB p.decls) = true)) : checkZ p = (60, -1) := by
  rw [checkZ, if_pos hp, if_neg h]
theorem check_more {p : Pr} {t : Fa} (hp : prB p = true) (hq : prB ⟨p.decls, p.facts ++ [t], p.rules⟩ = true) (ht : factB p.decls t = true) : checkZ ⟨p.decls, p.facts ++ [t], p.rules⟩ = checkZ p := by
  rw [checkZ, if_pos hq, checkZ, if_pos hp]
  simp only [List.all_append, List.all_cons, List.all_nil, ht, Bool.and_true]
/-- The fact that the law makes of one number. -/
def fact0 (n : Int) : Fa := factZ ⟨0, n, 0, 0, 0, 0⟩
def noneName : ByteArray := ⟨#[110, 111, 110, 101]⟩
def noneFa (n : Int) : Fa := ⟨noneName, (fact0 n).args⟩
def longFa (n : Int) : Fa := ⟨(fact0 n).name, (fact0 n).args ++ [(fact0 n).args.getD 0 (.mk 0 0 ⟨#[]⟩ [])]⟩
theorem fact0_name (n : Int) : ∃ i : Nat, i < 6 ∧ (pickZ n 6).toNat = i ∧ (fact0 n).name = (decl6 i).name ∧ ((fact0 n).args.length : Int) = (decl6 i).arity := by
  obtain ⟨i, hi, hn, hb⟩ := pick_nat n (n := 6) (by omega)
  refine ⟨i, by omega, hn, ?_, ?_⟩
  · show (declOf _).name = _; rw [declOf, hn]
  · obtain ⟨h1, h2⟩ := declOf_ok ⟨0, n, 0, 0, 0, 0⟩
    rw [fact0, factZ, List.length_map, List.length_range]
    rw [declOf, hn] at h1 h2 ⊢
    omega
theorem arity6 {i : Nat} (h : i < 6) : arityL decls6 (decl6 i).name = (decl6 i).arity := by
  match i, h with
  | 0, _ => simp [arityL, decls6, decl6, eqS, Lib.toList_data]
  | 1, _ => simp [arityL, decls6, decl6, eqS, Lib.toList_data]
  | 2, _ => simp [arityL, decls6, decl6, eqS, Lib.toList_data]
  | 3, _ => simp [arityL, decls6, decl6, eqS, Lib.toList_data]
  | 4, _ => simp [arityL, decls6, decl6, eqS, Lib.toList_data]
  | 5, _ => simp [arityL, decls6, decl6, eqS, Lib.toList_data]
theorem arity_none : arityL decls6 noneName = 0 := by simp [arityL, decls6, noneName, eqS, Lib.toList_data]
theorem once_twice {i : Nat} (h : i < 6) : onceB [] (decls6 ++ [decl6 i]) = false := by
  match i, h with
  | 0, _ => simp [onceB, inB, decls6, decl6]
  | 1, _ => simp [onceB, inB, decls6, decl6]
  | 2, _ => simp [onceB, inB, decls6, decl6]
  | 3, _ => simp [onceB, inB, decls6, decl6]
  | 4, _ => simp [onceB, inB, decls6, decl6]
  | 5, _ => simp [onceB, inB, decls6, decl6]
theorem fact0_fits (n : Int) : factB decls6 (fact0 n) = true := by
  obtain ⟨i, hi, -, h1, h2⟩ := fact0_name n
  rw [factB, h1, arity6 hi, h2]; simp
theorem none_not (n : Int) : factB decls6 (noneFa n) = false := by
  obtain ⟨i, hi, -, h1, h2⟩ := fact0_name n
  have h3 := decl6_ok hi
  rw [factB, noneFa, arity_none, beq_eq_false_iff_ne]
  show (0 : Int) ≠ ((fact0 n).args.length : Int)
  omega
theorem long_not (n : Int) : factB decls6 (longFa n) = false := by
  obtain ⟨i, hi, -, h1, h2⟩ := fact0_name n
  rw [factB, longFa, beq_eq_false_iff_ne]
  show arityL decls6 (fact0 n).name ≠ (((fact0 n).args ++ [_]).length : Int)
  rw [h1, arity6 hi, List.length_append, List.length_singleton]
  omega
theorem none_right (n : Int) : faB (noneFa n) = true := by
  have h := right_fact ⟨0, n, 0, 0, 0, 0⟩
  have hr : relB noneName = true := by
    have h1 : nameB noneName = true := by decide
    rw [relB, h1]
    simp [fnB, fnOf, fnArity, declB, noneName, Lib.toList_data]
  rw [faB] at h ⊢
  rw [show (noneFa n).name = noneName from rfl, hr]
  simp only [Bool.and_eq_true] at h
  simp only [Bool.true_and, Bool.and_eq_true]
  exact h.2
theorem long_right (n : Int) : faB (longFa n) = true := by
  have h := right_fact ⟨0, n, 0, 0, 0, 0⟩
  obtain ⟨i, hi, -, h1, h2⟩ := fact0_name n
  have h3 := decl6_ok hi
  change faB (fact0 n) = true at h
  rw [faB] at h ⊢
  rw [show (longFa n).name = (fact0 n).name from rfl, show (longFa n).args = (fact0 n).args ++ [(fact0 n).args.getD 0 (.mk 0 0 ⟨#[]⟩ [])] from rfl]
  simp only [Bool.and_eq_true] at h ⊢
  obtain ⟨g1, g2, g3⟩ := h
  obtain ⟨b1, b2, b3⟩ := listB_bounds g2
  refine ⟨g1, listB_of (by rw [List.length_append]; omega) (by rw [List.length_append, List.length_singleton]; omega) (fun x hx => ?_), ?_⟩
  · rcases List.mem_append.1 hx with hx | hx
    · exact b3 x hx
    · rw [List.mem_singleton.1 hx, List.getD, List.getElem?_eq_getElem (by omega)]
      exact b3 _ (List.getElem_mem _)
  · cases hl : (fact0 n).args with
    | nil => rw [hl] at b1; simp at b1
    | cons x l => rw [hl] at g3; exact g3
theorem prB_facts {p : Pr} (hp : prB p = true) {t : Fa} (h12 : p.facts.length ≤ 12) (ht : faB t = true) : prB ⟨p.decls, p.facts ++ [t], p.rules⟩ = true := by
  rw [prB] at hp ⊢
  simp only [Bool.and_eq_true] at hp ⊢
  obtain ⟨h1, h2, h3⟩ := hp
  obtain ⟨g1, g2, g3⟩ := listB_bounds h2
  refine ⟨h1, listB_of (by rw [List.length_append]; omega) (by rw [List.length_append, List.length_singleton]; omega) (fun x hx => ?_), h3⟩
  rcases List.mem_append.1 hx with hx | hx
  · exact g3 x hx
  · rw [List.mem_singleton.1 hx]; exact ht
theorem prB_decls {p : Pr} (hp : prB p = true) {d : De} (h12 : p.decls.length ≤ 12) (ht : deB d = true) : prB ⟨p.decls ++ [d], p.facts, p.rules⟩ = true := by
  rw [prB] at hp ⊢
  simp only [Bool.and_eq_true] at hp ⊢
  obtain ⟨h1, h2, h3⟩ := hp
  obtain ⟨g1, g2, g3⟩ := listB_bounds h1
  refine ⟨listB_of (by rw [List.length_append]; omega) (by rw [List.length_append, List.length_singleton]; omega) (fun x hx => ?_), h2, h3⟩
  rcases List.mem_append.1 hx with hx | hx
  · exact g3 x hx
  · rw [List.mem_singleton.1 hx]; exact ht
theorem facts12 (rules : List (List Rw)) (facts : List Rw) : (progZ rules facts).facts.length ≤ 12 := by
  show ((facts.take 12).map factZ).length ≤ 12
  rw [List.length_map, List.length_take]; omega
theorem check_none (rules : List (List Rw)) (facts : List Rw) (n : Int) : checkZ ⟨decls6, (progZ rules facts).facts ++ [noneFa n], (progZ rules facts).rules⟩ = (60, -1) := by
  refine check_bad (prB_facts (right_prog rules facts) (facts12 rules facts) (none_right n)) ?_
  rintro ⟨-, h⟩
  simp [none_not] at h
theorem check_long (rules : List (List Rw)) (facts : List Rw) (n : Int) : checkZ ⟨decls6, (progZ rules facts).facts ++ [longFa n], (progZ rules facts).rules⟩ = (60, -1) := by
  refine check_bad (prB_facts (right_prog rules facts) (facts12 rules facts) (long_right n)) ?_
  rintro ⟨-, h⟩
  simp [long_not] at h
theorem de_right {i : Nat} (hi6 : i < 6) : deB (decl6 i) = true := by
  rw [deB, rel6 hi6]
  have := decl6_ok hi6
  simp; omega
theorem check_twice (rules : List (List Rw)) (facts : List Rw) (n : Int) : checkZ ⟨decls6 ++ [decl6 (pickZ n 6).toNat], (progZ rules facts).facts, (progZ rules facts).rules⟩ = (60, -1) := by
  obtain ⟨i, hi, hn, hb⟩ := pick_nat n (n := 6) (by omega)
  rw [hn]
  refine check_bad (prB_decls (right_prog rules facts) (show decls6.length ≤ 12 by decide) (de_right (by omega))) ?_
  rintro ⟨h, -⟩
  rw [show (⟨decls6 ++ [decl6 i], (progZ rules facts).facts, (progZ rules facts).rules⟩ : Pr).decls = decls6 ++ [decl6 i] from rfl, once_twice (by omega)] at h
  cases h
theorem check_same (rules : List (List Rw)) (facts : List Rw) (n : Int) : checkZ ⟨decls6, (progZ rules facts).facts ++ [fact0 n], (progZ rules facts).rules⟩ = checkZ (progZ rules facts) :=
  check_more (p := progZ rules facts) (right_prog rules facts) (prB_facts (right_prog rules facts) (facts12 rules facts) (right_fact _)) (fact0_fits n)

end Go.Proofs.Ytkaiihoijcpldaa
