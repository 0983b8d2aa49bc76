/-
  What layer 4's own 'Fit' makes of raw programs, and that it is right.
-/
import Derived.Test.YtkaiihoijcpldaaNameLe
import Derived.Test.YtkaiihoijcpldaaBaseCases
import Derived.Test.YtkaiihoijcpldaaFitRight
import Derived.Test.YtkaiihoijcpldaaW11
namespace Go.Proofs.Ytkaiihoijcpldaa
open Go.RowKit

def nV : V := .mk 0 0 ⟨#[]⟩ []
/-- Of a raw text, a relation's name. -/
def relOf (s : ByteArray) : ByteArray := if fnB ⟨(nameOf s).toArray⟩ = true ∨ declB ⟨(nameOf s).toArray⟩ = true then ⟨#[110]⟩ else ⟨(nameOf s).toArray⟩
/-- Of a raw text, a variable's. -/
def varOf (s : ByteArray) : ByteArray := ⟨(86 :: (nameOf s).tail).toArray⟩
theorem rel_n : relB ⟨#[110]⟩ = true := by kernel_rfl
theorem relOf_right (s : ByteArray) : relB (relOf s) = true := by
  unfold relOf
  split
  · exact rel_n
  · rename_i h
    rw [relB, valueNames.name_of]
    cases h1 : fnB ⟨(nameOf s).toArray⟩ with
    | true => exact absurd (.inl h1) h
    | false =>
      cases h2 : declB ⟨(nameOf s).toArray⟩ with
      | true => exact absurd (.inr h2) h
      | false => rfl
theorem varOf_right (s : ByteArray) : varB (varOf s) = true := by
  have hn : (varOf s).size = (nameOf s).length := by
    rw [varOf, size_mk, List.length_cons, List.length_tail, nameOf_length]; omega
  have hl := nameOf_length s
  refine varB_true (by omega) (by omega) (fun i hi => ?_)
  have hi' : i < (86 :: (nameOf s).tail).length := by rw [varOf, size_mk] at hi; exact hi
  have e : (varOf s)[i] = (86 :: (nameOf s).tail)[i] := valueNames.ba_get (86 :: (nameOf s).tail) i hi hi'
  refine (congrArg (fun c : UInt8 => okVar i (c.toNat : Int)) e).trans ?_
  match i, hi' with
  | 0, _ => simp only [List.getElem_cons_zero]; decide
  | i + 1, h =>
    have h2 : i + 1 < (nameOf s).length := by rw [List.length_cons, List.length_tail] at h; omega
    have h1 := valueNames.nameOf_ok s (i + 1) h2
    rw [List.getElem_cons_succ, List.getElem_tail]
    have hz : decide (i + 1 = 0) = false := by simp
    simp only [okAt, okVar, hz, Bool.not_false, Bool.true_and, Bool.or_eq_true] at h1 ⊢
    exact .inr h1
theorem relOf_size (s : ByteArray) : (relOf s).size ≤ 16 := relB_le (relOf_right s)
theorem varOf_size (s : ByteArray) : (varOf s).size ≤ 16 := varB_le (varOf_right s)

/-- A value as a term's: what is an address is a relation's name. -/
def fitVal (x : V) : V := if (fitV 4 x).kind = 3 then .mk 3 (fitV 4 x).num (relOf (fitV 4 x).text) (fitV 4 x).list else fitV 4 x
theorem rel_not_fn {s : ByteArray} (h : relB s = true) : fnB s = false := by
  cases e : fnB s with
  | false => rfl
  | true => rw [relB, e] at h; simp at h
theorem fitVal_right (x : V) : valB (fitVal x) = true := by
  have h := fit_right 4 x
  unfold fitVal
  split
  · rename_i hk
    cases hv : fitV 4 x with
    | mk k n s l =>
      rw [hv] at h hk
      simp only [V.kind] at hk
      subst hk
      rw [rightV_mk] at h
      simp only [V.num, V.text, V.list]
      rcases baseB_cases h with ⟨e, _⟩ | ⟨e, _⟩ | ⟨_, rfl, rfl, _⟩ | ⟨e, _⟩
      case inr.inr.inl =>
        have h1 : rightV 4 (.mk 3 0 (relOf s) []) = true := by
          rw [rightV_mk]; simp [baseB, relB_name (relOf_right s)]
        rw [valB, h1]
        simp only [V.kind, V.text, rel_not_fn (relOf_right s)]
        rfl
      all_goals exact absurd e (by decide)
  · rename_i hk
    rw [valB, h]
    have : ((fitV 4 x).kind == 3) = false := by simpa using hk
    rw [this]; rfl

def fitFnN (i : Nat) : Nat := [0, 4, 3, 5, 8, 2].getD i 0
def fitFn (i : Nat) : ByteArray := ⟨(fname (fitFnN i)).toArray⟩
def fitOp (i : Nat) : ByteArray := ⟨#[[43, 45, 42].getD i 43]⟩
def fitFnAt (s : ByteArray) (k : Int) : Nat := (pickZ (wrap64 ((s.size : Int) + k)) 6).toNat
def fitLeaf (k : Int) (s : ByteArray) (x : V) : Tm := if k = 0 then .mk 1 (varOf s) nV [] else .mk 2 ⟨#[]⟩ (fitVal x) []
def fitArity (i : Nat) : Nat := (fnArity (fitFnN i)).toNat
/-- A term as 'Term' makes it, so deep at most. -/
def fitTm : Nat → Tm → Tm
  | 0, .mk k s x _ => fitLeaf (pickZ k 4 % 2) s x
  | d + 1, .mk k s x l =>
    if d = 0 ∨ l.length < 2 then fitLeaf (pickZ k 4 % 2) s x
    else if pickZ k 4 = 0 then fitLeaf 0 s x
    else if pickZ k 4 = 1 then fitLeaf 1 s x
    else if pickZ k 4 = 2 then .mk 3 (fitFn (fitFnAt s k)) nV ((l.take (fitArity (fitFnAt s k))).map (fitTm d))
    else .mk 4 (fitOp (pickZ (s.size : Int) 3).toNat) nV ((l.take 2).map (fitTm d))
theorem fitFnAt_lt (s : ByteArray) (k : Int) : fitFnAt s k < 6 := by
  have := pickZ_bd (wrap64 ((s.size : Int) + k)) 6 (by omega)
  unfold fitFnAt; omega
theorem fitFn_of : ∀ i, i < 6 → fnOf (fitFn i) = fitFnN i := by
  intro i hi
  match i, hi with
  | 0, _ => simp [fitFn, fitFnN, fname, fnOf, Lib.toList_data]
  | 1, _ => simp [fitFn, fitFnN, fname, fnOf, Lib.toList_data]
  | 2, _ => simp [fitFn, fitFnN, fname, fnOf, Lib.toList_data]
  | 3, _ => simp [fitFn, fitFnN, fname, fnOf, Lib.toList_data]
  | 4, _ => simp [fitFn, fitFnN, fname, fnOf, Lib.toList_data]
  | 5, _ => simp [fitFn, fitFnN, fname, fnOf, Lib.toList_data]
theorem fitArity_is : ∀ i, i < 6 → fnArity (fitFnN i) = (fitArity i : Int) ∧ 1 ≤ fitArity i ∧ fitArity i ≤ 2 := by decide
theorem nV_none : noneB nV = true := by kernel_rfl
theorem fitOp_right (n : Int) : opB (fitOp (pickZ n 3).toNat) = true := by
  have := pickZ_bd n 3 (by omega)
  generalize hk : (pickZ n 3).toNat = k
  have hk3 : k < 3 := by omega
  match k, hk3 with
  | 0, _ => simp [fitOp, opB, Lib.toList_data]
  | 1, _ => simp [fitOp, opB, Lib.toList_data]
  | 2, _ => simp [fitOp, opB, Lib.toList_data]
theorem leaf_right (d : Nat) (k : Int) (s : ByteArray) (x : V) : rightM (d + 1) (fitLeaf k s x) = true := by
  unfold fitLeaf
  split
  · rw [rightM_succ, if_pos rfl, varOf_right, nV_none]; rfl
  · rw [rightM_succ, if_neg (by decide), if_pos rfl, fitVal_right, none_empty]; rfl
theorem fitTm_right : ∀ (d : Nat) (t : Tm), rightM (d + 1) (fitTm (d + 1) t) = true
  | d, .mk k s x l => by
    rw [fitTm]
    split
    · exact leaf_right d _ s x
    rename_i h
    have hd : d ≠ 0 := fun e => h (.inl e)
    have hl : 2 ≤ l.length := by
      by_cases hl : l.length < 2
      · exact absurd (.inr hl) h
      · omega
    match d, hd with
    | d + 1, _ =>
    have sub : ∀ m, m ≤ 2 → ∀ y ∈ (l.take m).map (fitTm (d + 1)), rightM (d + 1) y = true := fun m _ y hy => by
      obtain ⟨z, _, rfl⟩ := List.mem_map.1 hy
      exact fitTm_right d z
    split
    · exact leaf_right _ _ s x
    split
    · exact leaf_right _ _ s x
    split
    · have hlt := fitFnAt_lt s k
      obtain ⟨a1, a2, a3⟩ := fitArity_is _ hlt
      rw [rightM_succ, if_neg (by decide), if_neg (by decide), if_pos rfl, nV_none, fitFn_of _ hlt, a1, listB_some (by rw [List.length_map, List.length_take]; omega) (by rw [List.length_map, List.length_take]; omega)]
      rw [Bool.true_and, List.all_eq_true]
      exact sub _ a3
    · rw [rightM_succ, if_neg (by decide), if_neg (by decide), if_neg (by decide), if_pos rfl, fitOp_right, nV_none, listB_some (by rw [List.length_map, List.length_take]; omega) (by rw [List.length_map, List.length_take]; omega)]
      rw [Bool.true_and, Bool.true_and, List.all_eq_true]
      exact sub 2 (Nat.le_refl _)

def tmS : Tm := .mk 1 ⟨#[83]⟩ nV []
def tmX : Tm := .mk 1 ⟨#[88]⟩ nV []
def fitHead (l : List Tm) : Tm := match l with
  | [] => tmS
  | t :: _ => if pickZ t.kind 4 = 1 then .mk 2 ⟨#[]⟩ (.mk 3 0 (relOf t.name) []) [] else tmS
def fitArgs (l : List Tm) : List Tm := fitHead l :: ((l.take 8).drop 1).map (fitTm 8)
def fitAt (l : List Tm) (i : Nat) : Tm := match l[i]? with
  | some t => fitTm 8 t
  | none => tmX
theorem tmS_right : rightM 8 tmS = true := by kernel_rfl
theorem tmX_right : rightM 8 tmX = true := by kernel_rfl
theorem addr_right (s : ByteArray) : valB (.mk 3 0 (relOf s) []) = true := by
  have h1 : rightV 4 (.mk 3 0 (relOf s) []) = true := by
    rw [rightV_mk]; simp [baseB, relB_name (relOf_right s)]
  rw [valB, h1]
  simp only [V.kind, V.text, rel_not_fn (relOf_right s)]
  rfl
theorem fitHead_right (l : List Tm) : rightM 8 (fitHead l) = true ∧ placeB (fitHead l) = true := by
  unfold fitHead
  split
  · exact ⟨tmS_right, by kernel_rfl⟩
  · split
    · rename_i t _ _
      refine ⟨by rw [rightM_succ, if_neg (by decide), if_pos rfl, addr_right, none_empty]; rfl, rfl⟩
    · exact ⟨tmS_right, by kernel_rfl⟩
theorem fitArgs_len (l : List Tm) : 1 ≤ (fitArgs l).length ∧ (fitArgs l).length ≤ 8 := by
  simp only [fitArgs, List.length_cons, List.length_map, List.length_drop, List.length_take]; omega
theorem fitArgs_right (l : List Tm) : listB 1 8 (rightM 8) (fitArgs l) = true ∧ headB (fitArgs l) = true := by
  obtain ⟨h1, h2⟩ := fitArgs_len l
  refine ⟨?_, (fitHead_right l).2⟩
  rw [listB_some (by omega) (by omega), List.all_eq_true]
  intro y hy
  rcases List.mem_cons.1 hy with rfl | hy
  · exact (fitHead_right l).1
  · obtain ⟨z, _, rfl⟩ := List.mem_map.1 hy
    exact fitTm_right 7 z
theorem fitAt_right (l : List Tm) (i : Nat) : rightM 8 (fitAt l i) = true := by
  unfold fitAt
  split
  · exact fitTm_right 7 _
  · exact tmX_right
theorem atom_right (s : ByteArray) (l : List Tm) : atomB (relOf s) (fitArgs l) = true := by
  rw [atomB, relOf_right, (fitArgs_right l).1, (fitArgs_right l).2]; rfl

def fitCmp (i : Nat) : ByteArray := ⟨([[61, 61], [33, 61], [60], [60, 61], [62], [62, 61]].getD i []).toArray⟩
def fitLi (x : Li) : Li :=
  if pickZ x.kind 4 = 0 then ⟨1, relOf x.name, fitArgs x.args⟩
  else if pickZ x.kind 4 = 1 then ⟨2, relOf x.name, fitArgs x.args⟩
  else if pickZ x.kind 4 = 2 then ⟨3, fitCmp (pickZ (x.name.size : Int) 6).toNat, [fitAt x.args 0, fitAt x.args 1]⟩
  else ⟨4, varOf x.name, [fitAt x.args 0]⟩
theorem fitCmp_right (n : Int) : cmpB (fitCmp (pickZ n 6).toNat) = true := by
  have := pickZ_bd n 6 (by omega)
  generalize hk : (pickZ n 6).toNat = k
  have hk3 : k < 6 := by omega
  match k, hk3 with
  | 0, _ => simp [fitCmp, cmpB, Lib.toList_data]
  | 1, _ => simp [fitCmp, cmpB, Lib.toList_data]
  | 2, _ => simp [fitCmp, cmpB, Lib.toList_data]
  | 3, _ => simp [fitCmp, cmpB, Lib.toList_data]
  | 4, _ => simp [fitCmp, cmpB, Lib.toList_data]
  | 5, _ => simp [fitCmp, cmpB, Lib.toList_data]
theorem fitLi_right (x : Li) : liB (fitLi x) = true := by
  unfold fitLi
  split
  · rw [liB, if_pos rfl]; exact atom_right _ _
  split
  · rw [liB, if_neg (by show ¬ (2 : Int) = 1; decide), if_pos rfl]; exact atom_right _ _
  split
  · rw [liB, if_neg (by show ¬ (3 : Int) = 1; decide), if_neg (by show ¬ (3 : Int) = 2; decide), if_pos rfl]
    simp only [fitCmp_right, Bool.true_and]
    rw [listB_some (by simp) (by simp)]
    simp [fitAt_right]
  · rw [liB, if_neg (by show ¬ (4 : Int) = 1; decide), if_neg (by show ¬ (4 : Int) = 2; decide), if_neg (by show ¬ (4 : Int) = 3; decide), if_pos rfl]
    simp only [varOf_right, Bool.true_and]
    rw [listB_some (by simp) (by simp)]
    simp [fitAt_right]

def fitDe (d : De) : De := ⟨relOf d.name, 1 + pickZ d.arity 8⟩
def aV : V := .mk 3 0 ⟨#[97]⟩ []
def fitFa (t : Fa) : Fa := ⟨relOf t.name, aV :: (t.args.take 7).map (fitV 4)⟩
def fitAggN (i : Nat) : ByteArray := ⟨([[109, 105, 110], [109, 97, 120], [99, 111, 117, 110, 116]].getD i []).toArray⟩
def fitBody (l : List Li) : List Li := if l = [] then [fitLi ⟨0, ⟨#[]⟩, []⟩] else (l.take 8).map fitLi
def fitRu (r : Ru) : Ru :=
  if 1 < (fitArgs r.args).length ∧ pickZ r.at' 2 = 1 then
    ⟨relOf r.label, relOf r.head, (fitArgs r.args).set (1 + pickZ r.at' ((fitArgs r.args).length - 1)).toNat (.mk 1 (varOf r.agg) nV []), fitAggN (pickZ r.at' 3).toNat, 1 + pickZ r.at' ((fitArgs r.args).length - 1), fitBody r.body⟩
  else ⟨relOf r.label, relOf r.head, fitArgs r.args, ⟨#[]⟩, 0, fitBody r.body⟩
def fitPr (p : Pr) : Pr := ⟨(p.decls.take 64).map fitDe, (p.facts.take 64).map fitFa, (p.rules.take 64).map fitRu⟩
theorem fitDe_right (d : De) : deB (fitDe d) = true := by
  have := pickZ_bd d.arity 8 (by omega)
  rw [deB, fitDe, relOf_right, decide_eq_true (by show (1 : Int) ≤ 1 + pickZ d.arity 8; omega), decide_eq_true (by show 1 + pickZ d.arity 8 ≤ (8 : Int); omega)]; rfl
theorem aV_right : rightV 4 aV = true := by kernel_rfl
theorem fitFa_right (t : Fa) : faB (fitFa t) = true := by
  rw [faB, fitFa, relOf_right]
  simp only [Bool.true_and]
  rw [listB_some (by simp; omega) (by simp; omega)]
  have : (aV :: (t.args.take 7).map (fitV 4)).all (rightV 4) = true := by
    rw [List.all_eq_true]
    intro y hy
    rcases List.mem_cons.1 hy with rfl | hy
    · exact aV_right
    · obtain ⟨z, _, rfl⟩ := List.mem_map.1 hy
      exact fit_right 4 z
  rw [this]; rfl
theorem fitBody_right (l : List Li) : listB 1 8 liB (fitBody l) = true := by
  unfold fitBody
  split
  · rw [listB_some (by simp) (by simp)]; simp [fitLi_right]
  · rename_i h
    have hl : 1 ≤ l.length := List.length_pos_iff.2 h
    rw [listB_some (by simp; omega) (by simp; omega), List.all_eq_true]
    intro y hy
    obtain ⟨z, _, rfl⟩ := List.mem_map.1 hy
    exact fitLi_right z
theorem fitAgg_right (n : Int) : aggNameB (fitAggN (pickZ n 3).toNat) = true ∧ (fitAggN (pickZ n 3).toNat).toList.isEmpty = false := by
  have := pickZ_bd n 3 (by omega)
  generalize hk : (pickZ n 3).toNat = k
  have hk3 : k < 3 := by omega
  match k, hk3 with
  | 0, _ => exact ⟨by kernel_rfl, by kernel_rfl⟩
  | 1, _ => exact ⟨by kernel_rfl, by kernel_rfl⟩
  | 2, _ => exact ⟨by kernel_rfl, by kernel_rfl⟩
theorem headB_set {l : List Tm} {i : Nat} {t : Tm} (hi : i ≠ 0) : headB (l.set i t) = headB l := by
  cases l with
  | nil => rfl
  | cons x l =>
    match i, hi with
    | i + 1, _ => rfl
theorem var_right (s : ByteArray) : rightM 8 (.mk 1 (varOf s) nV []) = true := by
  rw [rightM_succ, if_pos rfl, varOf_right, nV_none]; rfl
theorem fitRu_right (r : Ru) : ruB (fitRu r) = true := by
  obtain ⟨h1, h2⟩ := fitArgs_right r.args
  obtain ⟨l1, l2⟩ := fitArgs_len r.args
  unfold fitRu
  split
  · rename_i h
    obtain ⟨hlt, -⟩ := h
    have hb := pickZ_bd r.at' ((fitArgs r.args).length - 1) (by omega)
    generalize hk : pickZ r.at' ((fitArgs r.args).length - 1) = k at *
    obtain ⟨a1, a2⟩ := fitAgg_right r.at'
    have hset : listB 1 8 (rightM 8) ((fitArgs r.args).set (1 + k).toNat (.mk 1 (varOf r.agg) nV [])) = true := by
      obtain ⟨g1, g2, g3⟩ := listB_bounds h1
      rw [listB_some (by rw [List.length_set]; omega) (by rw [List.length_set]; omega), List.all_eq_true]
      intro y hy
      rcases List.mem_or_eq_of_mem_set hy with hy | rfl
      · exact g3 y hy
      · exact var_right _
    rw [ruB, atomB, aggB]
    simp only
    rw [relOf_right, relOf_right, hset, headB_set (by omega), h2, if_neg (by rw [a2]; decide), a1, fitBody_right, decide_eq_true (by omega : (1 : Int) ≤ 1 + k), decide_eq_true (by rw [List.length_set]; omega)]
    have hka : kindAt ((fitArgs r.args).set (1 + k).toNat (.mk 1 (varOf r.agg) nV [])) (1 + k) = 1 := by
      unfold kindAt
      rw [List.getElem?_set_self (by omega)]
      rfl
    rw [hka]; rfl
  · rw [ruB, aggB]
    simp only
    rw [if_pos none_empty, relOf_right, atom_right, fitBody_right]; rfl
theorem listB_upTo' {α : Type} {R : α → Bool} {l : List α} (h2 : (l.length : Int) ≤ 64) : listB 0 64 R l = l.all R := listB_some (by omega) h2
theorem fitPr_right (p : Pr) : prB (fitPr p) = true := by
  rw [prB, fitPr]
  simp only
  rw [listB_upTo' (by simp; omega), listB_upTo' (by simp; omega), listB_upTo' (by simp; omega)]
  have a1 : ((p.decls.take 64).map fitDe).all deB = true := by
    rw [List.all_eq_true]; intro y hy; obtain ⟨z, _, rfl⟩ := List.mem_map.1 hy; exact fitDe_right z
  have a2 : ((p.facts.take 64).map fitFa).all faB = true := by
    rw [List.all_eq_true]; intro y hy; obtain ⟨z, _, rfl⟩ := List.mem_map.1 hy; exact fitFa_right z
  have a3 : ((p.rules.take 64).map fitRu).all ruB = true := by
    rw [List.all_eq_true]; intro y hy; obtain ⟨z, _, rfl⟩ := List.mem_map.1 hy; exact fitRu_right z
  rw [a1, a2, a3]; rfl

end Go.Proofs.Ytkaiihoijcpldaa
