/-
  FitPr, PickFour, StrAdd, Relation
-/
import Derived.Test.YtjohcnhiblfbnaaGreatK32
import Derived.Test.YtjohcnhiblfbnaaGreatK08
import Derived.Test.YtjohcnhiblfbnaaGreatK03
import Derived.Test.YtjohcnhiblfbnaaGreatK01
import Derived.Test.YtjohcnhiblfbnaaGreatK18
import Derived.Lib.IndexBytes
namespace Go.Proofs.YtjohcnhiblfbnaaGreat
open Go.RowKit
def nV : V := .mk 0 0 ⟨#[]⟩ []
def relOf (s : ByteArray) : ByteArray := if fnB ⟨(nameOf s).toArray⟩ = true ∨ declB ⟨(nameOf s).toArray⟩ = true then ⟨#[110]⟩ else ⟨(nameOf s).toArray⟩
def varOf (s : ByteArray) : ByteArray := ⟨(86 :: (nameOf s).tail).toArray⟩
theorem rel_n : relB ⟨#[110]⟩ = true := by kernel_rfl
theorem relOf_right (s : ByteArray) : relB (relOf s) = true := by
 unfold relOf
 split
 ·exact rel_n
 ·rename_i h
  rw [relB, valueNames.name_of]
  cases h1 : fnB ⟨(nameOf s).toArray⟩ with
  | true => exact absurd (.inl h1) h
  | false =>
   cases h2 : declB ⟨(nameOf s).toArray⟩ with
   | true => exact absurd (.inr h2) h
   | false => rfl
theorem varOf_right (s : ByteArray) : varB (varOf s) = true := by
 have hn : (varOf s).size = (nameOf s).length := by
  rw [varOf, size_mk, List.length_cons, List.length_tail, nameOf_length]; omega
 have hl := nameOf_length s;refine varB_true (by omega) (by omega) (fun i hi => ?_);have hi' : i < (86 :: (nameOf s).tail).length := by rw [varOf, size_mk] at hi; exact hi
 have e : (varOf s)[i] = (86 :: (nameOf s).tail)[i] := valueNames.ba_get (86 :: (nameOf s).tail) i hi hi';refine (congrArg (fun c : UInt8 => okVar i (c.toNat : Int)) e).trans ?_
 match i, hi' with
 | 0, _ => simp only [List.getElem_cons_zero]; decide
 | i + 1, h =>
  have h2 : i + 1 < (nameOf s).length := by rw [List.length_cons, List.length_tail] at h; omega
  have h1 := valueNames.nameOf_ok s (i + 1) h2;rw [List.getElem_cons_succ, List.getElem_tail];have hz : decide (i + 1 = 0) = false := by simp
  simp only [okAt, okVar, hz, Bool.not_false, Bool.true_and, Bool.or_eq_true] at h1 ⊢
  exact .inr h1
theorem relOf_size (s : ByteArray) : (relOf s).size ≤ 16 := relB_le (relOf_right s)
theorem varOf_size (s : ByteArray) : (varOf s).size ≤ 16 := varB_le (varOf_right s)
def fitVal (x : V) : V := if (fitV 4 x).kind = 3 then .mk 3 (fitV 4 x).num (relOf (fitV 4 x).text) (fitV 4 x).list else fitV 4 x
theorem rel_not_fn {s : ByteArray} (h : relB s = true) : fnB s = false := by
 cases e : fnB s with
 | false => rfl
 | true => rw [relB, e] at h; simp at h
theorem fitVal_right (x : V) : valB (fitVal x) = true := by
 have h := fit_right 4 x;unfold fitVal
 split
 ·rename_i hk
  cases hv : fitV 4 x with
  | mk k n s l =>
   rw [hv] at h hk;simp only [V.kind] at hk
   subst hk;rw [rightV_mk] at h;simp only [V.num, V.text, V.list]
   rcases baseB_cases h with ⟨e, _⟩ | ⟨e, _⟩ | ⟨_, rfl, rfl, _⟩ | ⟨e, _⟩
   case inr.inr.inl =>
    have h1 : rightV 4 (.mk 3 0 (relOf s) []) = true := by
     rw [rightV_mk]; simp [baseB, relB_name (relOf_right s)]
    rw [valB, h1];simp only [V.kind, V.text, rel_not_fn (relOf_right s)]
    rfl
   all_goals exact absurd e (by decide)
 ·rename_i hk
  rw [valB, h];have : ((fitV 4 x).kind == 3) = false := by simpa using hk
  rw [this]; rfl
def fitFnN (i : Nat) : Nat := [0, 4, 3, 5, 8, 2].getD i 0
def fitFn (i : Nat) : ByteArray := ⟨(fname (fitFnN i)).toArray⟩
def fitOp (i : Nat) : ByteArray := ⟨#[[43, 45, 42].getD i 43]⟩
def fitFnAt (s : ByteArray) (k : Int) : Nat := (pickZ (wrap64 ((s.size : Int) + k)) 6).toNat
def fitLeaf (k : Int) (s : ByteArray) (x : V) : Tm := if k = 0 then .mk 1 (varOf s) nV [] else .mk 2 ⟨#[]⟩ (fitVal x) []
def fitArity (i : Nat) : Nat := (fnArity (fitFnN i)).toNat
def fitTm : Nat → Tm → Tm
 | 0, .mk k s x _ => fitLeaf (pickZ k 4 % 2) s x
 | d + 1, .mk k s x l =>
  if d = 0 ∨ l.length < 2 then fitLeaf (pickZ k 4 % 2) s x
  else if pickZ k 4 = 0 then fitLeaf 0 s x
  else if pickZ k 4 = 1 then fitLeaf 1 s x
  else if pickZ k 4 = 2 then .mk 3 (fitFn (fitFnAt s k)) nV ((l.take (fitArity (fitFnAt s k))).map (fitTm d))
  else .mk 4 (fitOp (pickZ (s.size : Int) 3).toNat) nV ((l.take 2).map (fitTm d))
theorem fitFnAt_lt (s : ByteArray) (k : Int) : fitFnAt s k < 6 := by
 have := pickZ_bd (wrap64 ((s.size : Int) + k)) 6 (by omega);unfold fitFnAt; omega
theorem fitFn_of : ∀ i, i < 6 → fnOf (fitFn i) = fitFnN i := by
 intro i hi
 match i, hi with
 | 0, _ => simp [fitFn, fitFnN, fname, fnOf, Lib.toList_data]
 | 1, _ => simp [fitFn, fitFnN, fname, fnOf, Lib.toList_data]
 | 2, _ => simp [fitFn, fitFnN, fname, fnOf, Lib.toList_data]
 | 3, _ => simp [fitFn, fitFnN, fname, fnOf, Lib.toList_data]
 | 4, _ => simp [fitFn, fitFnN, fname, fnOf, Lib.toList_data]
 | 5, _ => simp [fitFn, fitFnN, fname, fnOf, Lib.toList_data]
theorem fitArity_is : ∀ i, i < 6 → fnArity (fitFnN i) = (fitArity i : Int) ∧ 1 ≤ fitArity i ∧ fitArity i ≤ 2 := by decide
theorem nV_none : noneB nV = true := by kernel_rfl
theorem fitOp_right (n : Int) : opB (fitOp (pickZ n 3).toNat) = true := by
 have := pickZ_bd n 3 (by omega);generalize hk : (pickZ n 3).toNat = k;have hk3 : k < 3 := by omega
 match k, hk3 with
 | 0, _ => simp [fitOp, opB, Lib.toList_data]
 | 1, _ => simp [fitOp, opB, Lib.toList_data]
 | 2, _ => simp [fitOp, opB, Lib.toList_data]
theorem leaf_right (d : Nat) (k : Int) (s : ByteArray) (x : V) : rightM (d + 1) (fitLeaf k s x) = true := by
 unfold fitLeaf
 split
 ·rw [rightM_succ, if_pos rfl, varOf_right, nV_none]; rfl
 ·rw [rightM_succ, if_neg (by decide), if_pos rfl, fitVal_right, none_empty]; rfl
theorem fitTm_right : ∀ (d : Nat) (t : Tm), rightM (d + 1) (fitTm (d + 1) t) = true
 | d, .mk k s x l => by
  rw [fitTm]
  split
  ·exact leaf_right d _ s x
  rename_i h
  have hd : d ≠ 0 := fun e => h (.inl e)
  have hl : 2 ≤ l.length := by
   by_cases hl : l.length < 2
   ·exact absurd (.inr hl) h
   ·omega
  match d, hd with
  | d + 1, _ =>
  have sub : ∀ m, m ≤ 2 → ∀ y ∈ (l.take m).map (fitTm (d + 1)), rightM (d + 1) y = true := fun m _ y hy => by
   obtain ⟨z, _, rfl⟩ := List.mem_map.1 hy;exact fitTm_right d z
  split
  ·exact leaf_right _ _ s x
  split
  ·exact leaf_right _ _ s x
  split
  ·have hlt := fitFnAt_lt s k
   obtain ⟨a1, a2, a3⟩ := fitArity_is _ hlt;rw [rightM_succ, if_neg (by decide), if_neg (by decide), if_pos rfl, nV_none, fitFn_of _ hlt, a1, listB_some (by rw [List.length_map, List.length_take]; omega) (by rw [List.length_map, List.length_take]; omega)];rw [Bool.true_and, List.all_eq_true];exact sub _ a3
  ·rw [rightM_succ, if_neg (by decide), if_neg (by decide), if_neg (by decide), if_pos rfl, fitOp_right, nV_none, listB_some (by rw [List.length_map, List.length_take]; omega) (by rw [List.length_map, List.length_take]; omega)]
   rw [Bool.true_and, Bool.true_and, List.all_eq_true];exact sub 2 (Nat.le_refl _)
def tmS : Tm := .mk 1 ⟨#[83]⟩ nV []
def tmX : Tm := .mk 1 ⟨#[88]⟩ nV []
def fitHead (l : List Tm) : Tm := match l with
 | [] => tmS
 | t :: _ => if pickZ t.kind 4 = 1 then .mk 2 ⟨#[]⟩ (.mk 3 0 (relOf t.name) []) [] else tmS
def fitArgs (l : List Tm) : List Tm := fitHead l :: ((l.take 8).drop 1).map (fitTm 8)
def fitAt (l : List Tm) (i : Nat) : Tm := match l[i]? with
 | some t => fitTm 8 t
 | none => tmX
theorem fitArgs_len (l : List Tm) : 1 ≤ (fitArgs l).length ∧ (fitArgs l).length ≤ 8 := by
 simp only [fitArgs, List.length_cons, List.length_map, List.length_drop, List.length_take]; omega
def fitCmp (i : Nat) : ByteArray := ⟨([[61, 61], [33, 61], [60], [60, 61], [62], [62, 61]].getD i []).toArray⟩
def fitLi (x : Li) : Li :=
 if pickZ x.kind 4 = 0 then ⟨1, relOf x.name, fitArgs x.args⟩
 else if pickZ x.kind 4 = 1 then ⟨2, relOf x.name, fitArgs x.args⟩
 else if pickZ x.kind 4 = 2 then ⟨3, fitCmp (pickZ (x.name.size : Int) 6).toNat, [fitAt x.args 0, fitAt x.args 1]⟩
 else ⟨4, varOf x.name, [fitAt x.args 0]⟩
def fitDe (d : De) : De := ⟨relOf d.name, 1 + pickZ d.arity 8⟩
def aV : V := .mk 3 0 ⟨#[97]⟩ []
def fitFa (t : Fa) : Fa := ⟨relOf t.name, aV :: (t.args.take 7).map (fitV 4)⟩
def fitAggN (i : Nat) : ByteArray := ⟨([[109, 105, 110], [109, 97, 120], [99, 111, 117, 110, 116]].getD i []).toArray⟩
def fitBody (l : List Li) : List Li := if l = [] then [fitLi ⟨0, ⟨#[]⟩, []⟩] else (l.take 8).map fitLi
def fitRu (r : Ru) : Ru :=
 if 1 < (fitArgs r.args).length ∧ pickZ r.at' 2 = 1 then
  ⟨relOf r.label, relOf r.head, (fitArgs r.args).set (1 + pickZ r.at' ((fitArgs r.args).length - 1)).toNat (.mk 1 (varOf r.agg) nV []), fitAggN (pickZ r.at' 3).toNat, 1 + pickZ r.at' ((fitArgs r.args).length - 1), fitBody r.body⟩
 else ⟨relOf r.label, relOf r.head, fitArgs r.args, ⟨#[]⟩, 0, fitBody r.body⟩
def fitPr (p : Pr) : Pr := ⟨(p.decls.take 64).map fitDe, (p.facts.take 64).map fitFa, (p.rules.take 64).map fitRu⟩
end Go.Proofs.YtjohcnhiblfbnaaGreat
namespace Go.Proofs.YtjohcnhiblfbnaaGreat
open Go.RowKit
theorem pick4_any (c n : Int) (w : World) (hc : I64 c) (hn : 1 ≤ n) (hn2 : n ≤ 9223372036854775807) :
  Calls Tryz.prog 28 #[.int .i64 c, .int .i64 n] w fun e w' => e = .returned (.int .i64 (pickZ c n)) ∧ w = w' := by
 obtain ⟨h1, h2⟩ := hc
 by_cases h : c < 0
 ·have HF : Hid (pickZ c n = (-(c + 1)) % n) := by show _ = _; rw [pickZ, if_pos h]
  have h3 : 0 ≤ -(c + 1) := by omega
  have hne : (n == 0) = false := beq_eq_false_iff_ne.2 (by omega);go_enter Tryz.func28, Tryz.ntmps28
  go_wp2_with fail
  go_ret
  refine ⟨?_, rfl⟩;rw [HF.out];refine ret_int' ?_;rw [← Int.neg_tmod, Int.tmod_eq_emod_of_nonneg h3]
 ·have HF : Hid (pickZ c n = c % n) := by show _ = _; rw [pickZ, if_neg h]
  have h3 : 0 ≤ c := by omega
  have hne : (n == 0) = false := beq_eq_false_iff_ne.2 (by omega);go_enter Tryz.func28, Tryz.ntmps28
  go_wp2_with fail
  go_ret
  refine ⟨?_, rfl⟩;rw [HF.out];rfl
end Go.Proofs.YtjohcnhiblfbnaaGreat
namespace Go.Proofs.YtjohcnhiblfbnaaGreat
open Go.RowKit
theorem strAdd (a b : ByteArray) (h : a.size + b.size ≤ 140737488355328) : Op.stringOp .add a b = pure (.string (a ++ b)) := by
 simp only [Op.stringOp]
 rw [if_neg (by rw [show IntKind.i64.max = 9223372036854775807 from by decide]; omega)]
theorem ret_ba {a b : ByteArray} (h : a = b) : Ending.returned (.string a) = .returned (.string b) := by rw [h]
end Go.Proofs.YtjohcnhiblfbnaaGreat
namespace Go.Proofs.YtjohcnhiblfbnaaGreat
open Go.RowKit
theorem Relation_any (s : ByteArray) (w : World) (hs : s.size ≤ maxLen) : Calls Tryz.prog 31 #[.string s] w fun e w' => e = .returned (.string (relOf s)) ∧ Below w.heap.size w w' := by
 have HS := Lib.hid hs;clear hs;obtain ⟨n, hn⟩ : ∃ n : ByteArray, ⟨(nameOf s).toArray⟩ = n := ⟨_, rfl⟩;have HN := Lib.hid hn;have HR : Hid (relOf s = if fnB n = true ∨ declB n = true then ⟨#[110]⟩ else n) := by show _ = _; rw [relOf, hn]
 clear hn
 cases h1 : fnB n with
 | true =>
  have h1' := of_decide_eq_true h1;have HF : Hid (relOf s = ⟨#[110]⟩) := by show _ = _; rw [HR.out, if_pos (.inl h1)]
  have hge : decide (fnArity (fnOf n) ≥ 0) = true := decide_eq_true h1';clear h1 h1' HR;go_enter Tryz.func31, Tryz.ntmps31
  go_wp2_with fail
  refine (lawName_any s w HS.out).mono ?_;rw [HN.out];rintro e w2 ⟨rfl, hb⟩;have B2 := Lib.hid hb;clear hb;go_wp2_with fail
  refine (refArity_any n _).mono ?_;rintro e w3 ⟨rfl, rfl⟩;go_wp2_with fail
  go_ret
  exact ⟨ret_ba HF.out.symm, B2.out⟩
 | false =>
  have h1' := of_decide_eq_false h1;have hge : decide (fnArity (fnOf n) ≥ 0) = false := decide_eq_false h1'
  cases h2 : declB n with
  | true =>
   have HF : Hid (relOf s = ⟨#[110]⟩) := by show _ = _; rw [HR.out, if_pos (.inr h2)]
   rw [declB] at h2;clear h1 h1' HR;go_enter Tryz.func31, Tryz.ntmps31
   go_wp2_with fail
   refine (lawName_any s w HS.out).mono ?_;rw [HN.out];rintro e w2 ⟨rfl, hb⟩;have B2 := Lib.hid hb;clear hb;go_wp2_with fail
   refine (refArity_any n _).mono ?_;rintro e w3 ⟨rfl, rfl⟩;go_wp2_with fail
   go_ret
   exact ⟨ret_ba HF.out.symm, B2.out⟩
  | false =>
   have HF : Hid (relOf s = n) := by show _ = _; rw [HR.out, if_neg (by rw [h1, h2]; simp)]
   rw [declB] at h2;clear h1 h1' HR;go_enter Tryz.func31, Tryz.ntmps31
   go_wp2_with fail
   refine (lawName_any s w HS.out).mono ?_;rw [HN.out];rintro e w2 ⟨rfl, hb⟩;have B2 := Lib.hid hb;clear hb;go_wp2_with fail
   refine (refArity_any n _).mono ?_;rintro e w3 ⟨rfl, rfl⟩;go_wp2_with fail
   go_ret
   exact ⟨ret_ba HF.out.symm, B2.out⟩
theorem Variable_any (s : ByteArray) (w : World) (hs : s.size ≤ maxLen) : Calls Tryz.prog 29 #[.string s] w fun e w' => e = .returned (.string (varOf s)) ∧ Below w.heap.size w w' := by
 have HS := Lib.hid hs;clear hs;have hl := nameOf_length s;obtain ⟨n, hn⟩ : ∃ n : ByteArray, ⟨(nameOf s).toArray⟩ = n := ⟨_, rfl⟩;have hnz : n.size = 1 + min s.size 15 := by rw [← hn, size_mk, hl]
 have HN := Lib.hid hn
 have HF : Hid (varOf s = ⟨#[86]⟩ ++ n.extract 1 n.size) := by
  show _ = _
  rw [varOf]
  apply ByteArray.ext
  rw [ByteArray.data_append]
  apply Array.toList_inj.1
  have e1 : (n.extract 1 n.size).data.toList = n.data.toList.drop 1 := Lib.extract_to_end n 1;rw [Array.toList_append, e1, ← hn];simp
 have hz : (n.extract 1 n.size).size = n.size - 1 := by rw [ByteArray.size_extract]; omega
 have y1 := strAdd ⟨#[86]⟩ (n.extract 1 n.size) (by rw [hz]; show 1 + (n.size - 1) ≤ _; omega);have h1 : (1 : Int) ≤ (n.size : Int) := by omega
 clear hn hl hnz hz;go_enter Tryz.func29, Tryz.ntmps29
 go_wp2_with fail
 refine (lawName_any s w HS.out).mono ?_;rw [HN.out];rintro e w2 ⟨rfl, hb⟩;have B2 := Lib.hid hb;clear hb;go_wp2_with fail
 go_ret
 exact ⟨ret_ba HF.out.symm, B2.out⟩
end Go.Proofs.YtjohcnhiblfbnaaGreat
