/-
  What layer 4's own 'Fit' makes of raw programs, and that it is right.
-/
import Derived.Test.YtgjemmdhamkngaaGreatDoorJ03
import Derived.Test.YtgjemmdhamkngaaGreatDoorJ05
import Derived.Test.YtgjemmdhamkngaaGreatDoorJ06
import Derived.Test.YtgjemmdhamkngaaGreatDoorJ02
import Derived.Test.YtgjemmdhamkngaaGreatDoorJ04
import Derived.Lib.IndexBytes
import Derived.WalkSpells
import Derived.WalkLawsBesides
import Derived.Lib.SmallJoins
import Derived.Maps.AppendAt
namespace Go.Proofs.YtgjemmdhamkngaaGreatDoor
open Go.RowKit

def nV : V := .mk 0 0 ⟨#[]⟩ []
/-- Of a raw text, a relation's name. -/
def relOf (s : ByteArray) : ByteArray := if fnB ⟨(nameOf s).toArray⟩ = true ∨ declB ⟨(nameOf s).toArray⟩ = true then ⟨#[110]⟩ else ⟨(nameOf s).toArray⟩
/-- Of a raw text, a variable's. -/
def varOf (s : ByteArray) : ByteArray := ⟨(86 :: (nameOf s).tail).toArray⟩
theorem rel_n : relB ⟨#[110]⟩ = true := by kernel_rfl
theorem relOf_right (s : ByteArray) : relB (relOf s) = true := by
  unfold relOf
  split
  · exact rel_n
  · rename_i h
    rw [relB, valueNames.name_of]
    cases h1 : fnB ⟨(nameOf s).toArray⟩ with
    | true => exact absurd (.inl h1) h
    | false =>
      cases h2 : declB ⟨(nameOf s).toArray⟩ with
      | true => exact absurd (.inr h2) h
      | false => rfl
theorem varOf_right (s : ByteArray) : varB (varOf s) = true := by
  have hn : (varOf s).size = (nameOf s).length := by
    rw [varOf, size_mk, List.length_cons, List.length_tail, nameOf_length]; omega
  have hl := nameOf_length s
  refine varB_true (by omega) (by omega) (fun i hi => ?_)
  have hi' : i < (86 :: (nameOf s).tail).length := by rw [varOf, size_mk] at hi; exact hi
  have e : (varOf s)[i] = (86 :: (nameOf s).tail)[i] := valueNames.ba_get (86 :: (nameOf s).tail) i hi hi'
  refine (congrArg (fun c : UInt8 => okVar i (c.toNat : Int)) e).trans ?_
  match i, hi' with
  | 0, _ => simp only [List.getElem_cons_zero]; decide
  | i + 1, h =>
    have h2 : i + 1 < (nameOf s).length := by rw [List.length_cons, List.length_tail] at h; omega
    have h1 := valueNames.nameOf_ok s (i + 1) h2
    rw [List.getElem_cons_succ, List.getElem_tail]
    have hz : decide (i + 1 = 0) = false := by simp
    simp only [okAt, okVar, hz, Bool.not_false, Bool.true_and, Bool.or_eq_true] at h1 ⊢
    exact .inr h1
theorem relOf_size (s : ByteArray) : (relOf s).size ≤ 16 := relB_le (relOf_right s)
theorem varOf_size (s : ByteArray) : (varOf s).size ≤ 16 := varB_le (varOf_right s)

/-- A value as a term's: what is an address is a relation's name. -/
def fitVal (x : V) : V := if (fitV 4 x).kind = 3 then .mk 3 (fitV 4 x).num (relOf (fitV 4 x).text) (fitV 4 x).list else fitV 4 x
theorem rel_not_fn {s : ByteArray} (h : relB s = true) : fnB s = false := by
  cases e : fnB s with
  | false => rfl
  | true => rw [relB, e] at h; simp at h
theorem fitVal_right (x : V) : valB (fitVal x) = true := by
  have h := fit_right 4 x
  unfold fitVal
  split
  · rename_i hk
    cases hv : fitV 4 x with
    | mk k n s l =>
      rw [hv] at h hk
      simp only [V.kind] at hk
      subst hk
      rw [rightV_mk] at h
      simp only [V.num, V.text, V.list]
      rcases baseB_cases h with ⟨e, _⟩ | ⟨e, _⟩ | ⟨_, rfl, rfl, _⟩ | ⟨e, _⟩
      case inr.inr.inl =>
        have h1 : rightV 4 (.mk 3 0 (relOf s) []) = true := by
          rw [rightV_mk]; simp [baseB, relB_name (relOf_right s)]
        rw [valB, h1]
        simp only [V.kind, V.text, rel_not_fn (relOf_right s)]
        rfl
      all_goals exact absurd e (by decide)
  · rename_i hk
    rw [valB, h]
    have : ((fitV 4 x).kind == 3) = false := by simpa using hk
    rw [this]; rfl

def fitFnN (i : Nat) : Nat := [0, 4, 3, 5, 8, 2].getD i 0
def fitFn (i : Nat) : ByteArray := ⟨(fname (fitFnN i)).toArray⟩
def fitOp (i : Nat) : ByteArray := ⟨#[[43, 45, 42].getD i 43]⟩
def fitFnAt (s : ByteArray) (k : Int) : Nat := (pickZ (wrap64 ((s.size : Int) + k)) 6).toNat
def fitLeaf (k : Int) (s : ByteArray) (x : V) : Tm := if k = 0 then .mk 1 (varOf s) nV [] else .mk 2 ⟨#[]⟩ (fitVal x) []
def fitArity (i : Nat) : Nat := (fnArity (fitFnN i)).toNat
/-- A term as 'Term' makes it, so deep at most. -/
def fitTm : Nat → Tm → Tm
  | 0, .mk k s x _ => fitLeaf (pickZ k 4 % 2) s x
  | d + 1, .mk k s x l =>
    if d = 0 ∨ l.length < 2 then fitLeaf (pickZ k 4 % 2) s x
    else if pickZ k 4 = 0 then fitLeaf 0 s x
    else if pickZ k 4 = 1 then fitLeaf 1 s x
    else if pickZ k 4 = 2 then .mk 3 (fitFn (fitFnAt s k)) nV ((l.take (fitArity (fitFnAt s k))).map (fitTm d))
    else .mk 4 (fitOp (pickZ (s.size : Int) 3).toNat) nV ((l.take 2).map (fitTm d))
theorem fitFnAt_lt (s : ByteArray) (k : Int) : fitFnAt s k < 6 := by
  have := pickZ_bd (wrap64 ((s.size : Int) + k)) 6 (by omega)
  unfold fitFnAt; omega
theorem fitFn_of : ∀ i, i < 6 → fnOf (fitFn i) = fitFnN i := by
  intro i hi
  match i, hi with
  | 0, _ => simp [fitFn, fitFnN, fname, fnOf, Lib.toList_data]
  | 1, _ => simp [fitFn, fitFnN, fname, fnOf, Lib.toList_data]
  | 2, _ => simp [fitFn, fitFnN, fname, fnOf, Lib.toList_data]
  | 3, _ => simp [fitFn, fitFnN, fname, fnOf, Lib.toList_data]
  | 4, _ => simp [fitFn, fitFnN, fname, fnOf, Lib.toList_data]
  | 5, _ => simp [fitFn, fitFnN, fname, fnOf, Lib.toList_data]
theorem fitArity_is : ∀ i, i < 6 → fnArity (fitFnN i) = (fitArity i : Int) ∧ 1 ≤ fitArity i ∧ fitArity i ≤ 2 := by decide
theorem nV_none : noneB nV = true := by kernel_rfl
theorem fitOp_right (n : Int) : opB (fitOp (pickZ n 3).toNat) = true := by
  have := pickZ_bd n 3 (by omega)
  generalize hk : (pickZ n 3).toNat = k
  have hk3 : k < 3 := by omega
  match k, hk3 with
  | 0, _ => simp [fitOp, opB, Lib.toList_data]
  | 1, _ => simp [fitOp, opB, Lib.toList_data]
  | 2, _ => simp [fitOp, opB, Lib.toList_data]
theorem leaf_right (d : Nat) (k : Int) (s : ByteArray) (x : V) : rightM (d + 1) (fitLeaf k s x) = true := by
  unfold fitLeaf
  split
  · rw [rightM_succ, if_pos rfl, varOf_right, nV_none]; rfl
  · rw [rightM_succ, if_neg (by decide), if_pos rfl, fitVal_right, none_empty]; rfl
theorem fitTm_right : ∀ (d : Nat) (t : Tm), rightM (d + 1) (fitTm (d + 1) t) = true
  | d, .mk k s x l => by
    rw [fitTm]
    split
    · exact leaf_right d _ s x
    rename_i h
    have hd : d ≠ 0 := fun e => h (.inl e)
    have hl : 2 ≤ l.length := by
      by_cases hl : l.length < 2
      · exact absurd (.inr hl) h
      · omega
    match d, hd with
    | d + 1, _ =>
    have sub : ∀ m, m ≤ 2 → ∀ y ∈ (l.take m).map (fitTm (d + 1)), rightM (d + 1) y = true := fun m _ y hy => by
      obtain ⟨z, _, rfl⟩ := List.mem_map.1 hy
      exact fitTm_right d z
    split
    · exact leaf_right _ _ s x
    split
    · exact leaf_right _ _ s x
    split
    · have hlt := fitFnAt_lt s k
      obtain ⟨a1, a2, a3⟩ := fitArity_is _ hlt
      rw [rightM_succ, if_neg (by decide), if_neg (by decide), if_pos rfl, nV_none, fitFn_of _ hlt, a1, listB_some (by rw [List.length_map, List.length_take]; omega) (by rw [List.length_map, List.length_take]; omega)]
      rw [Bool.true_and, List.all_eq_true]
      exact sub _ a3
    · rw [rightM_succ, if_neg (by decide), if_neg (by decide), if_neg (by decide), if_pos rfl, fitOp_right, nV_none, listB_some (by rw [List.length_map, List.length_take]; omega) (by rw [List.length_map, List.length_take]; omega)]
      rw [Bool.true_and, Bool.true_and, List.all_eq_true]
      exact sub 2 (Nat.le_refl _)

def tmS : Tm := .mk 1 ⟨#[83]⟩ nV []
def tmX : Tm := .mk 1 ⟨#[88]⟩ nV []
def fitHead (l : List Tm) : Tm := match l with
  | [] => tmS
  | t :: _ => if pickZ t.kind 4 = 1 then .mk 2 ⟨#[]⟩ (.mk 3 0 (relOf t.name) []) [] else tmS
def fitArgs (l : List Tm) : List Tm := fitHead l :: ((l.take 8).drop 1).map (fitTm 8)
def fitAt (l : List Tm) (i : Nat) : Tm := match l[i]? with
  | some t => fitTm 8 t
  | none => tmX
theorem tmS_right : rightM 8 tmS = true := by kernel_rfl
theorem tmX_right : rightM 8 tmX = true := by kernel_rfl
theorem addr_right (s : ByteArray) : valB (.mk 3 0 (relOf s) []) = true := by
  have h1 : rightV 4 (.mk 3 0 (relOf s) []) = true := by
    rw [rightV_mk]; simp [baseB, relB_name (relOf_right s)]
  rw [valB, h1]
  simp only [V.kind, V.text, rel_not_fn (relOf_right s)]
  rfl
theorem fitHead_right (l : List Tm) : rightM 8 (fitHead l) = true ∧ placeB (fitHead l) = true := by
  unfold fitHead
  split
  · exact ⟨tmS_right, by kernel_rfl⟩
  · split
    · rename_i t _ _
      refine ⟨by rw [rightM_succ, if_neg (by decide), if_pos rfl, addr_right, none_empty]; rfl, rfl⟩
    · exact ⟨tmS_right, by kernel_rfl⟩
theorem fitArgs_len (l : List Tm) : 1 ≤ (fitArgs l).length ∧ (fitArgs l).length ≤ 8 := by
  simp only [fitArgs, List.length_cons, List.length_map, List.length_drop, List.length_take]; omega
theorem fitArgs_right (l : List Tm) : listB 1 8 (rightM 8) (fitArgs l) = true ∧ headB (fitArgs l) = true := by
  obtain ⟨h1, h2⟩ := fitArgs_len l
  refine ⟨?_, (fitHead_right l).2⟩
  rw [listB_some (by omega) (by omega), List.all_eq_true]
  intro y hy
  rcases List.mem_cons.1 hy with rfl | hy
  · exact (fitHead_right l).1
  · obtain ⟨z, _, rfl⟩ := List.mem_map.1 hy
    exact fitTm_right 7 z
theorem fitAt_right (l : List Tm) (i : Nat) : rightM 8 (fitAt l i) = true := by
  unfold fitAt
  split
  · exact fitTm_right 7 _
  · exact tmX_right
theorem atom_right (s : ByteArray) (l : List Tm) : atomB (relOf s) (fitArgs l) = true := by
  rw [atomB, relOf_right, (fitArgs_right l).1, (fitArgs_right l).2]; rfl

def fitCmp (i : Nat) : ByteArray := ⟨([[61, 61], [33, 61], [60], [60, 61], [62], [62, 61]].getD i []).toArray⟩
def fitLi (x : Li) : Li :=
  if pickZ x.kind 4 = 0 then ⟨1, relOf x.name, fitArgs x.args⟩
  else if pickZ x.kind 4 = 1 then ⟨2, relOf x.name, fitArgs x.args⟩
  else if pickZ x.kind 4 = 2 then ⟨3, fitCmp (pickZ (x.name.size : Int) 6).toNat, [fitAt x.args 0, fitAt x.args 1]⟩
  else ⟨4, varOf x.name, [fitAt x.args 0]⟩
theorem fitCmp_right (n : Int) : cmpB (fitCmp (pickZ n 6).toNat) = true := by
  have := pickZ_bd n 6 (by omega)
  generalize hk : (pickZ n 6).toNat = k
  have hk3 : k < 6 := by omega
  match k, hk3 with
  | 0, _ => simp [fitCmp, cmpB, Lib.toList_data]
  | 1, _ => simp [fitCmp, cmpB, Lib.toList_data]
  | 2, _ => simp [fitCmp, cmpB, Lib.toList_data]
  | 3, _ => simp [fitCmp, cmpB, Lib.toList_data]
  | 4, _ => simp [fitCmp, cmpB, Lib.toList_data]
  | 5, _ => simp [fitCmp, cmpB, Lib.toList_data]
theorem fitLi_right (x : Li) : liB (fitLi x) = true := by
  unfold fitLi
  split
  · rw [liB, if_pos rfl]; exact atom_right _ _
  split
  · rw [liB, if_neg (by show ¬ (2 : Int) = 1; decide), if_pos rfl]; exact atom_right _ _
  split
  · rw [liB, if_neg (by show ¬ (3 : Int) = 1; decide), if_neg (by show ¬ (3 : Int) = 2; decide), if_pos rfl]
    simp only [fitCmp_right, Bool.true_and]
    rw [listB_some (by simp) (by simp)]
    simp [fitAt_right]
  · rw [liB, if_neg (by show ¬ (4 : Int) = 1; decide), if_neg (by show ¬ (4 : Int) = 2; decide), if_neg (by show ¬ (4 : Int) = 3; decide), if_pos rfl]
    simp only [varOf_right, Bool.true_and]
    rw [listB_some (by simp) (by simp)]
    simp [fitAt_right]

def fitDe (d : De) : De := ⟨relOf d.name, 1 + pickZ d.arity 8⟩
def aV : V := .mk 3 0 ⟨#[97]⟩ []
def fitFa (t : Fa) : Fa := ⟨relOf t.name, aV :: (t.args.take 7).map (fitV 4)⟩
def fitAggN (i : Nat) : ByteArray := ⟨([[109, 105, 110], [109, 97, 120], [99, 111, 117, 110, 116]].getD i []).toArray⟩
def fitBody (l : List Li) : List Li := if l = [] then [fitLi ⟨0, ⟨#[]⟩, []⟩] else (l.take 8).map fitLi
def fitRu (r : Ru) : Ru :=
  if 1 < (fitArgs r.args).length ∧ pickZ r.at' 2 = 1 then
    ⟨relOf r.label, relOf r.head, (fitArgs r.args).set (1 + pickZ r.at' ((fitArgs r.args).length - 1)).toNat (.mk 1 (varOf r.agg) nV []), fitAggN (pickZ r.at' 3).toNat, 1 + pickZ r.at' ((fitArgs r.args).length - 1), fitBody r.body⟩
  else ⟨relOf r.label, relOf r.head, fitArgs r.args, ⟨#[]⟩, 0, fitBody r.body⟩
def fitPr (p : Pr) : Pr := ⟨(p.decls.take 64).map fitDe, (p.facts.take 64).map fitFa, (p.rules.take 64).map fitRu⟩
theorem fitDe_right (d : De) : deB (fitDe d) = true := by
  have := pickZ_bd d.arity 8 (by omega)
  rw [deB, fitDe, relOf_right, decide_eq_true (by show (1 : Int) ≤ 1 + pickZ d.arity 8; omega), decide_eq_true (by show 1 + pickZ d.arity 8 ≤ (8 : Int); omega)]; rfl
theorem aV_right : rightV 4 aV = true := by kernel_rfl
theorem fitFa_right (t : Fa) : faB (fitFa t) = true := by
  rw [faB, fitFa, relOf_right]
  simp only [Bool.true_and]
  rw [listB_some (by simp; omega) (by simp; omega)]
  have : (aV :: (t.args.take 7).map (fitV 4)).all (rightV 4) = true := by
    rw [List.all_eq_true]
    intro y hy
    rcases List.mem_cons.1 hy with rfl | hy
    · exact aV_right
    · obtain ⟨z, _, rfl⟩ := List.mem_map.1 hy
      exact fit_right 4 z
  rw [this]; rfl
theorem fitBody_right (l : List Li) : listB 1 8 liB (fitBody l) = true := by
  unfold fitBody
  split
  · rw [listB_some (by simp) (by simp)]; simp [fitLi_right]
  · rename_i h
    have hl : 1 ≤ l.length := List.length_pos_iff.2 h
    rw [listB_some (by simp; omega) (by simp; omega), List.all_eq_true]
    intro y hy
    obtain ⟨z, _, rfl⟩ := List.mem_map.1 hy
    exact fitLi_right z
theorem fitAgg_right (n : Int) : aggNameB (fitAggN (pickZ n 3).toNat) = true ∧ (fitAggN (pickZ n 3).toNat).toList.isEmpty = false := by
  have := pickZ_bd n 3 (by omega)
  generalize hk : (pickZ n 3).toNat = k
  have hk3 : k < 3 := by omega
  match k, hk3 with
  | 0, _ => exact ⟨by kernel_rfl, by kernel_rfl⟩
  | 1, _ => exact ⟨by kernel_rfl, by kernel_rfl⟩
  | 2, _ => exact ⟨by kernel_rfl, by kernel_rfl⟩
theorem headB_set {l : List Tm} {i : Nat} {t : Tm} (hi : i ≠ 0) : headB (l.set i t) = headB l := by
  cases l with
  | nil => rfl
  | cons x l =>
    match i, hi with
    | i + 1, _ => rfl
theorem var_right (s : ByteArray) : rightM 8 (.mk 1 (varOf s) nV []) = true := by
  rw [rightM_succ, if_pos rfl, varOf_right, nV_none]; rfl
theorem fitRu_right (r : Ru) : ruB (fitRu r) = true := by
  obtain ⟨h1, h2⟩ := fitArgs_right r.args
  obtain ⟨l1, l2⟩ := fitArgs_len r.args
  unfold fitRu
  split
  · rename_i h
    obtain ⟨hlt, -⟩ := h
    have hb := pickZ_bd r.at' ((fitArgs r.args).length - 1) (by omega)
    generalize hk : pickZ r.at' ((fitArgs r.args).length - 1) = k at *
    obtain ⟨a1, a2⟩ := fitAgg_right r.at'
    have hset : listB 1 8 (rightM 8) ((fitArgs r.args).set (1 + k).toNat (.mk 1 (varOf r.agg) nV [])) = true := by
      obtain ⟨g1, g2, g3⟩ := listB_bounds h1
      rw [listB_some (by rw [List.length_set]; omega) (by rw [List.length_set]; omega), List.all_eq_true]
      intro y hy
      rcases List.mem_or_eq_of_mem_set hy with hy | rfl
      · exact g3 y hy
      · exact var_right _
    rw [ruB, atomB, aggB]
    simp only
    rw [relOf_right, relOf_right, hset, headB_set (by omega), h2, if_neg (by rw [a2]; decide), a1, fitBody_right, decide_eq_true (by omega : (1 : Int) ≤ 1 + k), decide_eq_true (by rw [List.length_set]; omega)]
    have hka : kindAt ((fitArgs r.args).set (1 + k).toNat (.mk 1 (varOf r.agg) nV [])) (1 + k) = 1 := by
      unfold kindAt
      rw [List.getElem?_set_self (by omega)]
      rfl
    rw [hka]; rfl
  · rw [ruB, aggB]
    simp only
    rw [if_pos none_empty, relOf_right, atom_right, fitBody_right]; rfl
theorem listB_upTo' {α : Type} {R : α → Bool} {l : List α} (h2 : (l.length : Int) ≤ 64) : listB 0 64 R l = l.all R := listB_some (by omega) h2
theorem fitPr_right (p : Pr) : prB (fitPr p) = true := by
  rw [prB, fitPr]
  simp only
  rw [listB_upTo' (by simp; omega), listB_upTo' (by simp; omega), listB_upTo' (by simp; omega)]
  have a1 : ((p.decls.take 64).map fitDe).all deB = true := by
    rw [List.all_eq_true]; intro y hy; obtain ⟨z, _, rfl⟩ := List.mem_map.1 hy; exact fitDe_right z
  have a2 : ((p.facts.take 64).map fitFa).all faB = true := by
    rw [List.all_eq_true]; intro y hy; obtain ⟨z, _, rfl⟩ := List.mem_map.1 hy; exact fitFa_right z
  have a3 : ((p.rules.take 64).map fitRu).all ruB = true := by
    rw [List.all_eq_true]; intro y hy; obtain ⟨z, _, rfl⟩ := List.mem_map.1 hy; exact fitRu_right z
  rw [a1, a2, a3]; rfl

end Go.Proofs.YtgjemmdhamkngaaGreatDoor

/-
  Layer 4's own 'pick': which of n things a raw number speaks of.
-/
namespace Go.Proofs.YtgjemmdhamkngaaGreatDoor
open Go.RowKit

theorem pick4_any (c n : Int) (w : World) (hc : I64 c) (hn : 1 ≤ n) (hn2 : n ≤ 9223372036854775807) :
    Calls Tryz.prog 28 #[.int .i64 c, .int .i64 n] w fun e w' => e = .returned (.int .i64 (pickZ c n)) ∧ w = w' := by
  obtain ⟨h1, h2⟩ := hc
  by_cases h : c < 0
  · have HF : Hid (pickZ c n = (-(c + 1)) % n) := by show _ = _; rw [pickZ, if_pos h]
    have h3 : 0 ≤ -(c + 1) := by omega
    have hne : (n == 0) = false := beq_eq_false_iff_ne.2 (by omega)
    go_enter Tryz.func28, Tryz.ntmps28
    go_wp2_with fail
    go_ret
    refine ⟨?_, rfl⟩
    rw [HF.out]
    refine ret_int' ?_
    rw [← Int.neg_tmod, Int.tmod_eq_emod_of_nonneg h3]
  · have HF : Hid (pickZ c n = c % n) := by show _ = _; rw [pickZ, if_neg h]
    have h3 : 0 ≤ c := by omega
    have hne : (n == 0) = false := beq_eq_false_iff_ne.2 (by omega)
    go_enter Tryz.func28, Tryz.ntmps28
    go_wp2_with fail
    go_ret
    refine ⟨?_, rfl⟩
    rw [HF.out]
    rfl

end Go.Proofs.YtgjemmdhamkngaaGreatDoor

/-
  The document's own Arity: of any name.
-/
namespace Go.Proofs.YtgjemmdhamkngaaGreatDoor
open Go.RowKit

def ArPost (k : Nat) (w : World) (e : Ending) (w' : World) : Prop := e = .returned (.int .i64 (fnArity k)) ∧ w = w'
set_option maxRecDepth 100000 in
set_option maxHeartbeats 2000000 in
theorem refArity_any (s : ByteArray) (w : World) : Calls Tryz.prog 63 #[.string s] w (ArPost (fnOf s) w) := by
  unfold fnOf
  cases h0 : (s.toList == [102, 95, 99, 111, 110, 115]) with
  | true =>
    rw [if_pos rfl]
    go_enter Tryz.func63, Tryz.ntmps63
    go_wp2_with fail
    go_ret
    exact ⟨rfl, rfl⟩
  | false =>
  rw [if_neg (by decide)]
  cases h1 : (s.toList == [102, 95, 97, 112, 112, 101, 110, 100]) with
  | true =>
    rw [if_pos rfl]
    go_enter Tryz.func63, Tryz.ntmps63
    go_wp2_with fail
    go_ret
    exact ⟨rfl, rfl⟩
  | false =>
  rw [if_neg (by decide)]
  cases h2 : (s.toList == [102, 95, 99, 111, 110, 99, 97, 116]) with
  | true =>
    rw [if_pos rfl]
    go_enter Tryz.func63, Tryz.ntmps63
    go_wp2_with fail
    go_ret
    exact ⟨rfl, rfl⟩
  | false =>
  rw [if_neg (by decide)]
  cases h3 : (s.toList == [102, 95, 109, 101, 109, 98, 101, 114]) with
  | true =>
    rw [if_pos rfl]
    go_enter Tryz.func63, Tryz.ntmps63
    go_wp2_with fail
    go_ret
    exact ⟨rfl, rfl⟩
  | false =>
  rw [if_neg (by decide)]
  cases h4 : (s.toList == [102, 95, 115, 105, 122, 101]) with
  | true =>
    rw [if_pos rfl]
    go_enter Tryz.func63, Tryz.ntmps63
    go_wp2_with fail
    go_ret
    exact ⟨rfl, rfl⟩
  | false =>
  rw [if_neg (by decide)]
  cases h5 : (s.toList == [102, 95, 102, 105, 114, 115, 116]) with
  | true =>
    rw [if_pos rfl]
    go_enter Tryz.func63, Tryz.ntmps63
    go_wp2_with fail
    go_ret
    exact ⟨rfl, rfl⟩
  | false =>
  rw [if_neg (by decide)]
  cases h6 : (s.toList == [102, 95, 108, 97, 115, 116]) with
  | true =>
    rw [if_pos rfl]
    go_enter Tryz.func63, Tryz.ntmps63
    go_wp2_with fail
    go_ret
    exact ⟨rfl, rfl⟩
  | false =>
  rw [if_neg (by decide)]
  cases h7 : (s.toList == [102, 95, 114, 101, 115, 116]) with
  | true =>
    rw [if_pos rfl]
    go_enter Tryz.func63, Tryz.ntmps63
    go_wp2_with fail
    go_ret
    exact ⟨rfl, rfl⟩
  | false =>
  rw [if_neg (by decide)]
  cases h8 : (s.toList == [102, 95, 114, 101, 118, 101, 114, 115, 101]) with
  | true =>
    rw [if_pos rfl]
    go_enter Tryz.func63, Tryz.ntmps63
    go_wp2_with fail
    go_ret
    exact ⟨rfl, rfl⟩
  | false =>
  rw [if_neg (by decide)]
  go_enter Tryz.func63, Tryz.ntmps63
  go_wp2_with fail
  go_ret
  exact ⟨rfl, rfl⟩

end Go.Proofs.YtgjemmdhamkngaaGreatDoor

/-
  A sum of texts.
-/
namespace Go.Proofs.YtgjemmdhamkngaaGreatDoor
open Go.RowKit

theorem strAdd (a b : ByteArray) (h : a.size + b.size ≤ 140737488355328) : Op.stringOp .add a b = pure (.string (a ++ b)) := by
  simp only [Op.stringOp]
  rw [if_neg (by rw [show IntKind.i64.max = 9223372036854775807 from by decide]; omega)]
theorem ret_ba {a b : ByteArray} (h : a = b) : Ending.returned (.string a) = .returned (.string b) := by rw [h]


end Go.Proofs.YtgjemmdhamkngaaGreatDoor

/-
  Layer 4's own names: 'Relation', 'Variable'.
-/
namespace Go.Proofs.YtgjemmdhamkngaaGreatDoor
open Go.RowKit

theorem Relation_any (s : ByteArray) (w : World) (hs : s.size ≤ maxLen) : Calls Tryz.prog 57 #[.string s] w fun e w' => e = .returned (.string (relOf s)) ∧ Below w.heap.size w w' := by
  have HS := Lib.hid hs
  clear hs
  obtain ⟨n, hn⟩ : ∃ n : ByteArray, ⟨(nameOf s).toArray⟩ = n := ⟨_, rfl⟩
  have HN := Lib.hid hn
  have HR : Hid (relOf s = if fnB n = true ∨ declB n = true then ⟨#[110]⟩ else n) := by show _ = _; rw [relOf, hn]
  clear hn
  cases h1 : fnB n with
  | true =>
    have h1' := of_decide_eq_true h1
    have HF : Hid (relOf s = ⟨#[110]⟩) := by show _ = _; rw [HR.out, if_pos (.inl h1)]
    have hge : decide (fnArity (fnOf n) ≥ 0) = true := decide_eq_true h1'
    clear h1 h1' HR
    go_enter Tryz.func57, Tryz.ntmps57
    go_wp2_with fail
    refine (lawName_any s w HS.out).mono ?_
    rw [HN.out]
    rintro e w2 ⟨rfl, hb⟩
    have B2 := Lib.hid hb
    clear hb
    go_wp2_with fail
    refine (refArity_any n _).mono ?_
    rintro e w3 ⟨rfl, rfl⟩
    go_wp2_with fail
    go_ret
    exact ⟨ret_ba HF.out.symm, B2.out⟩
  | false =>
    have h1' := of_decide_eq_false h1
    have hge : decide (fnArity (fnOf n) ≥ 0) = false := decide_eq_false h1'
    cases h2 : declB n with
    | true =>
      have HF : Hid (relOf s = ⟨#[110]⟩) := by show _ = _; rw [HR.out, if_pos (.inr h2)]
      rw [declB] at h2
      clear h1 h1' HR
      go_enter Tryz.func57, Tryz.ntmps57
      go_wp2_with fail
      refine (lawName_any s w HS.out).mono ?_
      rw [HN.out]
      rintro e w2 ⟨rfl, hb⟩
      have B2 := Lib.hid hb
      clear hb
      go_wp2_with fail
      refine (refArity_any n _).mono ?_
      rintro e w3 ⟨rfl, rfl⟩
      go_wp2_with fail
      go_ret
      exact ⟨ret_ba HF.out.symm, B2.out⟩
    | false =>
      have HF : Hid (relOf s = n) := by show _ = _; rw [HR.out, if_neg (by rw [h1, h2]; simp)]
      rw [declB] at h2
      clear h1 h1' HR
      go_enter Tryz.func57, Tryz.ntmps57
      go_wp2_with fail
      refine (lawName_any s w HS.out).mono ?_
      rw [HN.out]
      rintro e w2 ⟨rfl, hb⟩
      have B2 := Lib.hid hb
      clear hb
      go_wp2_with fail
      refine (refArity_any n _).mono ?_
      rintro e w3 ⟨rfl, rfl⟩
      go_wp2_with fail
      go_ret
      exact ⟨ret_ba HF.out.symm, B2.out⟩

theorem Variable_any (s : ByteArray) (w : World) (hs : s.size ≤ maxLen) : Calls Tryz.prog 60 #[.string s] w fun e w' => e = .returned (.string (varOf s)) ∧ Below w.heap.size w w' := by
  have HS := Lib.hid hs
  clear hs
  have hl := nameOf_length s
  obtain ⟨n, hn⟩ : ∃ n : ByteArray, ⟨(nameOf s).toArray⟩ = n := ⟨_, rfl⟩
  have hnz : n.size = 1 + min s.size 15 := by rw [← hn, size_mk, hl]
  have HN := Lib.hid hn
  have HF : Hid (varOf s = ⟨#[86]⟩ ++ n.extract 1 n.size) := by
    show _ = _
    rw [varOf]
    apply ByteArray.ext
    rw [ByteArray.data_append]
    apply Array.toList_inj.1
    have e1 : (n.extract 1 n.size).data.toList = n.data.toList.drop 1 := Lib.extract_to_end n 1
    rw [Array.toList_append, e1, ← hn]
    simp
  have hz : (n.extract 1 n.size).size = n.size - 1 := by rw [ByteArray.size_extract]; omega
  have y1 := strAdd ⟨#[86]⟩ (n.extract 1 n.size) (by rw [hz]; show 1 + (n.size - 1) ≤ _; omega)
  have h1 : (1 : Int) ≤ (n.size : Int) := by omega
  clear hn hl hnz hz
  go_enter Tryz.func60, Tryz.ntmps60
  go_wp2_with fail
  refine (lawName_any s w HS.out).mono ?_
  rw [HN.out]
  rintro e w2 ⟨rfl, hb⟩
  have B2 := Lib.hid hb
  clear hb
  go_wp2_with fail
  go_ret
  exact ⟨ret_ba HF.out.symm, B2.out⟩

end Go.Proofs.YtgjemmdhamkngaaGreatDoor

/-
  A slice of values that the call itself has made and appends to.
-/
namespace Go.Proofs.YtgjemmdhamkngaaGreatDoor
open Go.RowKit

/-- The call's own row (from block 'base' on) holds the values of l; their lists' rows lie in S. -/
def OwnL (S : Nat → Prop) (w : World) (base : Nat) (l : List V) (v : Value) : Prop :=
  ∃ xs, w.ownsRow base 44 4 v l.length xs ∧ RepRow S w l xs.toArray

theorem OwnL.nil (S : Nat → Prop) (w : World) (base : Nat) : OwnL S w base [] (.slice none 0 0) :=
  ⟨[], World.ownsRow_nil _ _ _ _, fun i hi => by simp at hi⟩

theorem row_snoc {S : Nat → Prop} {w : World} {l : List V} {xs : List Value} (h : RepRow S w l xs.toArray) (hl : xs.length = l.length * 4) {x : V} {y0 y1 y2 y3 : Value} (hx : RepG S w x y0 y1 y2 y3) : RepRow S w (l ++ [x]) (xs ++ [y0, y1, y2, y3]).toArray := by
  intro i hi
  by_cases e : i < l.length
  · obtain ⟨z0, z1, z2, z3, g0, g1, g2, g3, g⟩ := h i e
    refine ⟨z0, z1, z2, z3, ?_, ?_, ?_, ?_, by rw [List.getElem_append_left e]; exact g⟩ <;>
    · simp only [List.getElem?_toArray] at *
      rw [List.getElem?_append_left (by omega)]
      assumption
  · simp only [List.length_append, List.length_cons, List.length_nil] at hi
    obtain rfl : i = l.length := by omega
    refine ⟨y0, y1, y2, y3, ?_, ?_, ?_, ?_, by simpa using hx⟩ <;>
    · simp only [List.getElem?_toArray]
      rw [List.getElem?_append_right (by omega)]
      simp [hl]

/-- The row as a slice of values, wherever its own block is in S'. -/
theorem OwnL.rep {S S' : Nat → Prop} {w : World} {base : Nat} {l : List V} {v : Value} (h : OwnL S w base l v) (hS : ∀ k, S k → S' k) (hg : ∀ g, base ≤ g → g < w.heap.size → S' g) (hb : l.length * 56 ≤ 140737488355328) : RepLG S' w l v := by
  obtain ⟨xs, ⟨hlen, hown⟩, hr⟩ := h
  rcases hown with ⟨rfl, hn⟩ | ⟨g, cap, cur, rfl, hbg, hh, hnc, hcm, hcs, htk⟩
  · obtain rfl : l = [] := List.length_eq_zero_iff.1 hn
    exact ⟨none, 0, 0, 0, rfl, Nat.le_refl _, by simp, fun h => by omega, fun h => by simp at h, fun i hi => by simp at hi⟩
  · have hr' : RepRow S w l cur := by
      intro i hi
      obtain ⟨z0, z1, z2, z3, g0, g1, g2, g3, gg⟩ := hr i hi
      have key : ∀ j v, j < l.length * 4 → xs.toArray[j]? = some v → cur[j]? = some v := by
        intro j v hj hv
        rw [List.getElem?_toArray, ← htk, List.getElem?_take, if_pos hj] at hv
        rw [← Array.getElem?_toList]; exact hv
      exact ⟨z0, z1, z2, z3, key _ _ (by omega) g0, key _ _ (by omega) g1, key _ _ (by omega) g2, key _ _ (by omega) g3, gg⟩
    exact (hr'.on hS (fun _ _ => rfl)).slice hh (hg g hbg (Array.getElem?_eq_some_iff.1 hh).1) hnc hb

theorem OwnL.on {S S' : Nat → Prop} {w w' : World} {base : Nat} {l : List V} {v : Value} (h : OwnL S w base l v) (hS : ∀ k, S k → S' k) (hw : ∀ k, S k → w'.heap[k]? = w.heap[k]?) (ho : ∀ k, base ≤ k → k < w.heap.size → v.ownBlock = some k → w'.heap[k]? = w.heap[k]?) : OwnL S' w' base l v := by
  obtain ⟨xs, ⟨hlen, hown⟩, hr⟩ := h
  refine ⟨xs, ⟨hlen, ?_⟩, hr.on hS hw⟩
  rcases hown with h | ⟨g, cap, cur, rfl, hbg, hh, r⟩
  · exact .inl h
  · exact .inr ⟨g, cap, cur, rfl, hbg, (ho g hbg (Array.getElem?_eq_some_iff.1 hh).1 rfl).trans hh, r⟩

/-- Every block that there was stands. -/
theorem OwnL.stands {S S' : Nat → Prop} {w w' : World} {base : Nat} {l : List V} {v : Value} (h : OwnL S w base l v) (hS : ∀ k, S k → S' k ∧ k < w.heap.size) (hb : Below w.heap.size w w') : OwnL S' w' base l v :=
  h.on (fun k hk => (hS k hk).1) (fun k hk => hb.block k (hS k hk).2) (fun k _ hk _ => hb.block k hk)

theorem OwnL.own {S : Nat → Prop} {w : World} {base : Nat} {l : List V} {v : Value} (h : OwnL S w base l v) : ∃ xs, w.ownsRow base 44 4 v l.length xs ∧ RepRow S w l xs.toArray := h

/-- Behind an append of one value. -/
theorem OwnL.snoc {S S' : Nat → Prop} {w w' : World} {base : Nat} {l : List V} {v v' : Value} {xs : List Value} (hr : RepRow S w l xs.toArray) (hlen : xs.length = l.length * 4) {x : V} {y0 y1 y2 y3 : Value} (hx : RepG S w x y0 y1 y2 y3)
    (hown' : w'.ownsRow base 44 4 v' (l.length + 1) (xs ++ [y0, y1, y2, y3])) (hg : w.grownBy w' v.ownBlock) (hS : ∀ k, S k → S' k ∧ k < w.heap.size ∧ v.ownBlock ≠ some k) : OwnL S' w' base (l ++ [x]) v' :=
  ⟨xs ++ [y0, y1, y2, y3], by simpa using hown', (row_snoc hr hlen hx).on (fun k hk => (hS k hk).1) (fun k hk => hg.block k (hS k hk).2.1 (fun e => (hS k hk).2.2 e.symm))⟩

end Go.Proofs.YtgjemmdhamkngaaGreatDoor

/-
  'append' of a slice of values that came in.
-/
namespace Go.Proofs.YtgjemmdhamkngaaGreatDoor
open Go.RowKit

/-- The cells of a slice of values, one by one. -/
theorem RepLG.flat {S : Nat → Prop} {w : World} {l : List V} {a : Option Addr} {len cap : Nat} (h : RepLG S w l (.slice a len cap)) :
    len = l.length ∧ ∃ (b o : Nat) (xs : List Value), (0 < cap → a = some ⟨b, o, none⟩) ∧ xs.length = l.length * 4 ∧ (∀ j u, xs[j]? = some u → w.cell? ⟨b, o + j, none⟩ = some u) ∧ (∀ u ∈ xs, u.oneCell' = true) ∧ RepRow S w l xs.toArray := by
  obtain ⟨a', b, o, cap', e, h6, h7, h8, h9, h10⟩ := h
  cases e
  refine ⟨rfl, b, o, ?_⟩
  clear h6 h7 h9
  suffices H : ∀ n, n ≤ l.length → ∃ xs : List Value, xs.length = n * 4 ∧ (∀ j u, xs[j]? = some u → w.cell? ⟨b, o + j, none⟩ = some u) ∧ (∀ u ∈ xs, u.oneCell' = true) ∧ RepRow S w (l.take n) xs.toArray by
    obtain ⟨xs, h1, h2, h3, h4⟩ := H l.length (Nat.le_refl _)
    rw [List.take_length] at h4
    exact ⟨xs, h8, h1, h2, h3, h4⟩
  intro n
  induction n with
  | zero => exact fun _ => ⟨[], rfl, fun j u hj => by simp at hj, fun u hu => by simp at hu, fun i hi => by simp at hi⟩
  | succ n ih =>
    intro hn
    obtain ⟨xs, h1, h2, h3, h4⟩ := ih (by omega)
    obtain ⟨x0, x1, x2, x3, g0, g1, g2, g3, g⟩ := h10 n (by omega)
    obtain ⟨fa, fc, rfl, rfl, rfl, rfl⟩ := g.form
    refine ⟨xs ++ [.int .i64 l[n].kind, .int .i64 l[n].num, .string l[n].text, .slice fa l[n].list.length fc], by simp [h1]; omega, ?_, ?_, ?_⟩
    · intro j u hj
      by_cases hj1 : j < xs.length
      · rw [List.getElem?_append_left hj1] at hj; exact h2 j u hj
      · rw [List.getElem?_append_right (by omega)] at hj
        have hj2 : j - xs.length < 4 := by
          have := (List.getElem?_eq_some_iff.1 hj).1
          simpa using this
        obtain ⟨t, rfl⟩ : ∃ t, j = n * 4 + t := ⟨j - n * 4, by omega⟩
        have ht : n * 4 + t - xs.length = t := by omega
        rw [ht] at hj hj2
        match t, hj2, hj with
        | 0, _, hj => simp at hj; subst hj; exact g0
        | 1, _, hj => simp at hj; subst hj; exact g1
        | 2, _, hj => simp at hj; subst hj; exact g2
        | 3, _, hj => simp at hj; subst hj; exact g3
    · intro u hu
      rcases List.mem_append.1 hu with hu | hu
      · exact h3 u hu
      · simp at hu; rcases hu with rfl | rfl | rfl | rfl <;> rfl
    · rw [List.take_succ_eq_append_getElem (by omega)]
      exact row_snoc h4 (by rw [h1]; simp; omega) g

theorem row_append {S : Nat → Prop} {w : World} {l : List V} {xs : List Value} (h : RepRow S w l xs.toArray) (hl : xs.length = l.length * 4) {m : List V} {ys : List Value} (h' : RepRow S w m ys.toArray) : RepRow S w (l ++ m) (xs ++ ys).toArray := by
  intro i hi
  by_cases e : i < l.length
  · obtain ⟨z0, z1, z2, z3, g0, g1, g2, g3, g⟩ := h i e
    refine ⟨z0, z1, z2, z3, ?_, ?_, ?_, ?_, by rw [List.getElem_append_left e]; exact g⟩ <;>
    · simp only [List.getElem?_toArray] at *
      rw [List.getElem?_append_left (by omega)]
      assumption
  · have hi' : i - l.length < m.length := by simp at hi; omega
    obtain ⟨z0, z1, z2, z3, g0, g1, g2, g3, g⟩ := h' (i - l.length) hi'
    have e4 : i * 4 - xs.length = (i - l.length) * 4 := by omega
    refine ⟨z0, z1, z2, z3, ?_, ?_, ?_, ?_, by rw [List.getElem_append_right (by omega)]; exact g⟩ <;>
    · simp only [List.getElem?_toArray] at *
      rw [List.getElem?_append_right (by omega)]
      first
        | (rw [show i * 4 - xs.length = (i - l.length) * 4 by omega]; assumption)
        | (rw [show i * 4 + 1 - xs.length = (i - l.length) * 4 + 1 by omega]; assumption)
        | (rw [show i * 4 + 2 - xs.length = (i - l.length) * 4 + 2 by omega]; assumption)
        | (rw [show i * 4 + 3 - xs.length = (i - l.length) * 4 + 3 by omega]; assumption)

theorem add_lit' (b o j : Nat) : ((⟨b, o, none⟩ : Addr).add j) = ⟨b, o + j, none⟩ := by unfold Addr.add; split <;> simp_all

/-- 'append(v, x...)': what v owns, and behind it what x holds. -/
theorem append_run (w : World) (base : Nat) (ty : TypeId) {S : Nat → Prop} {l m : List V} {v x : Value} (hl : OwnL S w base l v) (hm : RepLG S w m x) (hS : ∀ k, S k → k < w.heap.size ∧ v.ownBlock ≠ some k)
    (hlen : (l.length + m.length) * 56 ≤ 140737488355328) (hbase : base ≤ w.heap.size) :
    ∃ v' w', (Builtin.append_ #[31, 31] ty #[v, x]).run Tryz.prog w = .ok v' w' ∧ OwnL S w' base (l ++ m) v' ∧ w.grownBy w' v.ownBlock ∧ (v'.ownBlock = v.ownBlock ∨ v'.ownBlock = some w.heap.size) := by
  obtain ⟨i0, hi, hz0, hz1, hz2⟩ := info_parts infoValue
  obtain ⟨xs, hown, hrow⟩ := hl
  obtain ⟨a, b, o, cap, rfl, -⟩ := id hm
  obtain ⟨-, b, o, ys, hx1, hx2, hx3, hx4, hx5⟩ := RepLG.flat hm
  have fin : ∀ v' w', w'.ownsRow base 44 4 v' (l.length + m.length) (xs ++ ys) → w.grownBy w' v.ownBlock → OwnL S w' base (l ++ m) v' := fun v' w' h1 h2 =>
    ⟨xs ++ ys, by rw [List.length_append]; exact h1, (row_append hrow hown.1 hx5).on (fun k hk => hk) (fun k hk => h2.block k (hS k hk).1 (fun e => (hS k hk).2 e.symm))⟩
  rcases a with _ | ad
  · have hm0 : m = [] := by
      by_cases hc : 0 < cap
      · have := hx1 hc; cases this
      · obtain ⟨a', b', o', cap', e', h6, _⟩ := hm
        cases e'
        exact List.length_eq_zero_iff.1 (by omega)
    subst hm0
    have hys : ys = [] := List.length_eq_zero_iff.1 (by simpa using hx2)
    subst hys
    have hc0 : cap = 0 := by
      by_cases hc : 0 < cap
      · have := hx1 hc; cases this
      · omega
    subst hc0
    have hrun := run_append_owned_none (P := Tryz.prog) (w := w) base 31 ty 44 i0 4 Tryz.underlying31 hi v l.length xs hown
    exact ⟨v, w, hrun, fin v w (by simpa using hown) (World.grownBy.refl w _), World.grownBy.refl w _, .inl rfl⟩
  · have hnews : ∀ j u, ys[j]? = some u → w.cell? (ad.add j) = some u := fun j u hj => by
      by_cases hc : 0 < cap
      · have := Option.some.inj (hx1 hc)
        subst this
        rw [add_lit']; exact hx3 j u hj
      · obtain ⟨a', b', o', cap', e', h6, _⟩ := hm
        cases e'
        have : ys = [] := List.length_eq_zero_iff.1 (by rw [hx2]; omega)
        rw [this] at hj; simp at hj
    obtain ⟨v', w', hrun, h1, h2, _, h5⟩ := run_append_own_at (P := Tryz.prog) w base 31 ty 44 i0 _ 4 56 Tryz.underlying31 hi hz0 hz1 hz2 rfl (by decide) v l.length xs hown ad m.length cap ys hx2 hnews hx4 (by unfold maxLen; omega) hlen hbase
    exact ⟨v', w', hrun, fin v' w' h1 h2, h2, h5⟩

/-- The operation itself, by what it is known to run to. -/
theorem wpList_append_by {P : Program} {w w' : World} {ops : Array Oper} {rest : List Oper} {o : Oper} {a : Act} {Q : Exit → Act → World → Prop} (hgd : o.guard = none) (s x : Operand) (t : TypeId)
    (ho : o.op = .call { callee := .builtin .append, args := #[s, x], argTypes := #[t, t] }) {v xv v' : Value} (hs : a.eval s = v) (hx : a.eval x = xv) (hrun : (Builtin.append_ #[t, t] o.type #[v, xv]).run P w = .ok v' w')
    (h : wpList P ops Q rest (a.put o.dst v') w') : wpList P ops Q (o :: rest) a w := by
  refine wpList_plain hgd fun K hK => ?_
  unfold Oper.wp execOp
  simp only [ho, resolve, invoke, builtin, Sem.run_bind, Sem.run_pure, Result.andThen_ok, List.map_toArray, List.map_cons, List.map_nil, hs, hx, hrun]
  exact hK _ _ h

end Go.Proofs.YtgjemmdhamkngaaGreatDoor
