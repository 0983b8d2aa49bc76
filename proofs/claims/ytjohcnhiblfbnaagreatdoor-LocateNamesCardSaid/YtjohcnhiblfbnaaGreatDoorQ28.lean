/-
  SixFact, SixRight, LocPure, ScOnce, ScFits, ScVars, ScWalk, ScSeq, ScAll, ScGoOn, ScRule, ScCheck, SixNames, LocTurn
-/
import Derived.Test.YtjohcnhiblfbnaaGreatDoorQ05
import Derived.Test.YtjohcnhiblfbnaaGreatDoorQ09
import Derived.Test.YtjohcnhiblfbnaaGreatDoorQ27
import Derived.Test.YtjohcnhiblfbnaaGreatDoorQ03
import Derived.Test.YtjohcnhiblfbnaaGreatDoorQ22
import Derived.Test.YtjohcnhiblfbnaaGreatDoorQ04
import Derived.Test.YtjohcnhiblfbnaaGreatDoorQ20
import Derived.Deep.CutRange
import Derived.Deep.Cut
import Derived.RangeFuncKeeps
import Derived.RangeFuncBound
import Derived.RangeFuncLeaves
import Derived.Shelf.Abstract
import Derived.WalkKit
import Derived.OwnWalkIn
import Derived.TacticsInMore
import Derived.LoopNIn
import Derived.LoopIn
import Derived.Lib.Hide
import Derived.RangeFuncWrites
import Derived.RangeFuncCalls
namespace Go.Proofs.YtjohcnhiblfbnaaGreatDoor
open Go.RowKit
end Go.Proofs.YtjohcnhiblfbnaaGreatDoor
namespace Go.Proofs.YtjohcnhiblfbnaaGreatDoor
open Go.RowKit
theorem listB_of {α : Type} {least most : Int} {R : α → Bool} {l : List α} (h1 : least ≤ (l.length : Int)) (h2 : (l.length : Int) ≤ most) (h : ∀ x ∈ l, R x = true) : listB least most R l = true := by
 rw [listB_some h1 h2, List.all_eq_true]; exact h
theorem vName_var {i : Nat} (h : i < 6) : varB (vName i) = true := by
 match i, h with
 | 0, _ => decide
 | 1, _ => decide
 | 2, _ => decide
 | 3, _ => decide
 | 4, _ => decide
 | 5, _ => decide
theorem pick_nat (c : Int) {n : Int} (hn : 1 ≤ n) : ∃ i : Nat, pickZ c n = (i : Int) ∧ (pickZ c n).toNat = i ∧ (i : Int) < n := by
 have h := pickZ_bd c n hn
 obtain ⟨i, hi⟩ := Int.eq_ofNat_of_zero_le h.1
 exact ⟨i, hi, by rw [hi]; simp, by omega⟩
theorem noneZ : noneB zV = true := by simp [noneB, zV, V.kind, V.num, V.text, V.list, Lib.toList_data]
theorem right_v (d : Nat) (c : Int) : rightM (d + 1) (vZ c) = true := by
 obtain ⟨i, hi, hn, hb⟩ := pick_nat c (n := 6) (by omega)
 rw [vZ, hn, vTm, rightM, if_pos rfl, vName_var (by omega), noneZ]
 rfl
theorem right_num (d : Nat) {n : Int} (h0 : 0 ≤ n) (h : n ≤ 10) : rightM (d + 1) (numZ n) = true := by
 rw [numZ, rightM, if_neg (by decide), if_pos rfl]
 simp [valB, rightV, baseB, V.kind, V.text, Lib.toList_data]
 omega
theorem adr_name {i : Nat} (h : i < 4) : nameB (adrName i) = true ∧ fnB (adrName i) = false := by
 match i, h with
 | 0, _ => exact ⟨by decide, by simp [fnB, fnOf, fnArity, adrName, Lib.toList_data]⟩
 | 1, _ => exact ⟨by decide, by simp [fnB, fnOf, fnArity, adrName, Lib.toList_data]⟩
 | 2, _ => exact ⟨by decide, by simp [fnB, fnOf, fnArity, adrName, Lib.toList_data]⟩
 | 3, _ => exact ⟨by decide, by simp [fnB, fnOf, fnArity, adrName, Lib.toList_data]⟩
theorem right_adr (d i : Nat) (h : i < 4) : rightM (d + 1) (adrZ i) = true := by
 rw [adrZ, rightM, if_neg (by decide), if_pos rfl]
 obtain ⟨h1, h2⟩ := adr_name h
 simp [valB, rightV, baseB, V.kind, V.text, Lib.toList_data, h1, h2]
theorem right_sum (d : Nat) {a b : Tm} {s : ByteArray} (ha : rightM d a = true) (hb : rightM d b = true) (hs : opB s = true) : rightM (d + 1) (sumZ a b s) = true := by
 rw [sumZ, rightM, if_neg (by decide), if_neg (by decide), if_neg (by decide), if_pos rfl, hs, listB_of (by simp) (by simp) (fun x hx => by
  rcases List.mem_cons.1 hx with rfl | hx
  ·exact ha
  ·rw [List.mem_singleton.1 hx]; exact hb), noneZ]
 rfl
theorem right_arg (c : Int) : rightM 8 (argZ c) = true := by
 rw [argZ]
 split
 ·have := pickZ_bd (c.tdiv 12) 4 (by omega)
  exact right_num 7 this.1 (by omega)
 ·split
  ·obtain ⟨i, hi, hn, hb⟩ := pick_nat (c.tdiv 12) (n := 3) (by omega)
   rw [hn]; exact right_adr 7 i (by omega)
  ·split
   ·exact right_sum 7 (right_v 6 _) (right_num 6 (by decide) (by decide)) (by simp [opB, Lib.toList_data])
   ·exact right_v 7 c
theorem rel6 {i : Nat} (h : i < 6) : relB (decl6 i).name = true := by
 match i, h with
 | 0, _ =>
  have h1 : nameB (decl6 0).name = true := by decide
  rw [relB, h1]
  simp [fnB, fnOf, fnArity, declB, decl6, decls6, Lib.toList_data]
 | 1, _ =>
  have h1 : nameB (decl6 1).name = true := by decide
  rw [relB, h1]
  simp [fnB, fnOf, fnArity, declB, decl6, decls6, Lib.toList_data]
 | 2, _ =>
  have h1 : nameB (decl6 2).name = true := by decide
  rw [relB, h1]
  simp [fnB, fnOf, fnArity, declB, decl6, decls6, Lib.toList_data]
 | 3, _ =>
  have h1 : nameB (decl6 3).name = true := by decide
  rw [relB, h1]
  simp [fnB, fnOf, fnArity, declB, decl6, decls6, Lib.toList_data]
 | 4, _ =>
  have h1 : nameB (decl6 4).name = true := by decide
  rw [relB, h1]
  simp [fnB, fnOf, fnArity, declB, decl6, decls6, Lib.toList_data]
 | 5, _ =>
  have h1 : nameB (decl6 5).name = true := by decide
  rw [relB, h1]
  simp [fnB, fnOf, fnArity, declB, decl6, decls6, Lib.toList_data]
theorem rel_of (x : Rw) : relB (declOf x).name = true := by
 obtain ⟨i, hi, hn, hb⟩ := pick_nat x.name (n := 6) (by omega)
 rw [declOf, hn]; exact rel6 (by omega)
theorem right_atom (x : Rw) : atomB (declOf x).name (atomZ x) = true := by
 have hl := atomZ_len x
 have hh : headB (atomZ x) = true := by rw [atomZ, atomTo, headB]; rfl
 rw [atomB, rel_of, hh, listB_of (by rw [atomZ, atomTo, List.length_cons]; omega) (by omega) (fun y hy => by
  rw [atomZ, atomTo] at hy
  rcases List.mem_cons.1 hy with rfl | hy
  ·exact right_v 7 _
  ·obtain ⟨i, -, rfl⟩ := List.mem_map.1 hy
   exact right_arg _)]
 rfl
theorem right_cmp {j : Nat} (h : j < 6) : cmpB (cmp6 j) = true := by
 match j, h with
 | 0, _ => simp [cmpB, cmp6, Lib.toList_data]
 | 1, _ => simp [cmpB, cmp6, Lib.toList_data]
 | 2, _ => simp [cmpB, cmp6, Lib.toList_data]
 | 3, _ => simp [cmpB, cmp6, Lib.toList_data]
 | 4, _ => simp [cmpB, cmp6, Lib.toList_data]
 | 5, _ => simp [cmpB, cmp6, Lib.toList_data]
theorem right_lit (x : Rw) : liB (litZ x) = true := by
 rw [litZ]
 split
 ·rw [liB, if_pos rfl]; exact right_atom x
 ·split
  ·show atomB _ _ = true; exact right_atom x
  ·split
   ·obtain ⟨j, hj, hn, hb⟩ := pick_nat x.name (n := 6) (by omega)
    have h4 := pickZ_bd x.n2 4 (by omega)
    show (cmpB (cmp6 (pickZ x.name 6).toNat) && listB 2 2 (rightM 8) _) = true
    rw [hn, right_cmp (by omega), listB_of (by simp) (by simp) (fun y hy => by
     rcases List.mem_cons.1 hy with rfl | hy
     ·exact right_v 7 _
     ·rw [List.mem_singleton.1 hy]
      split
      ·exact right_num 7 h4.1 (by omega)
      ·exact right_v 7 _)]
    rfl
   ·obtain ⟨i, hi, hn, hb⟩ := pick_nat x.n0 (n := 6) (by omega)
    show (varB (vName (pickZ x.n0 6).toNat) && listB 1 1 (rightM 8) _) = true
    rw [hn, vName_var (by omega), listB_of (by simp) (by simp) (fun y hy => by
     rw [List.mem_singleton.1 hy]
     refine right_sum 7 (right_v 6 _) ?_ ?_
     ·split
      ·exact right_num 6 (by decide) (by decide)
      ·exact right_v 6 _
     ·split
      ·simp [opB, Lib.toList_data]
      ·simp [opB, Lib.toList_data])]
    rfl
theorem right_label (n : Int) : relB (labelZ n) = true := by
 obtain ⟨r, hr, hn, hb⟩ := pick_nat n (n := 26) (by omega)
 have h1 : ∀ r : Nat, r < 26 → nameB ⟨#[114, UInt8.ofNat (97 + r)]⟩ = true := by decide
 rw [labelZ, hn, relB, h1 r (by omega)]
 simp [fnB, fnOf, fnArity, declB, Lib.toList_data]
theorem right_agg {g : Nat} (h : g < 3) : (agg6 g).toList.isEmpty = false ∧ aggNameB (agg6 g) = true := by
 match g, h with
 | 0, _ => simp [agg6, aggNameB, Lib.toList_data]
 | 1, _ => simp [agg6, aggNameB, Lib.toList_data]
 | 2, _ => simp [agg6, aggNameB, Lib.toList_data]
theorem right_body (l : List Rw) : listB 1 8 liB (bodyZ l) = true := by
 rw [bodyZ_eq]
 have h5 := bodyTo_len l 5
 split
 ·exact listB_of (by simp) (by simp) (fun y hy => by rw [List.mem_singleton.1 hy]; exact right_lit _)
 ·rename_i h
  have : 0 < (bodyTo l 5).length := List.length_pos_iff.2 h
  exact listB_of (by omega) (by omega) (fun y hy => by
   rw [bodyTo] at hy
   obtain ⟨x, -, rfl⟩ := List.mem_map.1 hy
   exact right_lit _)
theorem right_rule (l : List Rw) (n : Int) : ruB (ruleZ l n) = true := by
 rw [ruleZ]
 split
 ·rename_i h
  rw [aggOn] at h
  simp only [Bool.and_eq_true, decide_eq_true_eq, beq_iff_eq] at h
  obtain ⟨-, h1, h2⟩ := h
  obtain ⟨g, hg, hn, hb⟩ := pick_nat ((headRw l).kind.tdiv 5) (n := 3) (by omega)
  obtain ⟨a1, a2⟩ := right_agg (show g < 3 by omega)
  have hk : kindAt (atomZ (headRw l)) 1 = 1 := by
   rw [List.getD, List.getElem?_eq_getElem h1] at h2
   rw [kindAt, show (1 : Int).toNat = 1 from rfl, List.getElem?_eq_getElem h1]; exact h2
  rw [ruB, hn, right_label, right_atom, right_body, aggB, a1, if_neg (by decide), a2, hk, decide_eq_true (show (1 : Int) < ((atomZ (headRw l)).length : Int) by omega)]
  rfl
 ·rw [ruB, right_label, right_atom, right_body, aggB, if_pos (by simp [Lib.toList_data])]
  rfl
end Go.Proofs.YtjohcnhiblfbnaaGreatDoor
namespace Go.Proofs.YtjohcnhiblfbnaaGreatDoor
open Go.RowKit
theorem placeZ_ok {r : Ru} (h : (placeZ r).2 = true) : ruB r = true ∧ eqS r.head linkS = false ∧ atVarsL r.body = true ∧ kind0 r.args = 1 ∧ (bodyPlaceZ r).2 = true ∧ aggFits r (bodyPlaceZ r).1 = true ∧ placeZ r = ((bodyPlaceZ r).1, true) := by
 rw [placeZ] at h ⊢
 split at h
 ·rename_i h1
  split at h
  ·rename_i h2
   rw [if_pos h1, if_pos h2]
   exact ⟨h1.1, h1.2.1, h1.2.2.1, h1.2.2.2, h2.1, h2.2, rfl⟩
  ·cases h
 ·cases h
theorem placeZ_no {r : Ru} (h : (placeZ r).2 = false) : placeZ r = (zPl, false) := by
 rw [placeZ] at h ⊢
 split at h
 ·rename_i h1
  split at h
  ·cases h
  ·rename_i h2; rw [if_pos h1, if_neg h2]
 ·rename_i h1; rw [if_neg h1]
theorem between_cases {f : ByteArray → ByteArray → Option Nat} {a b : ByteArray} (h : (betweenZ f a b).2.2 = true) : ((betweenZ f a b).1 = a ∧ (betweenZ f a b).2.1 = b ∨ (betweenZ f a b).1 = b ∧ (betweenZ f a b).2.1 = a) ∧ (f (betweenZ f a b).1 (betweenZ f a b).2.1).isSome = true := by
 cases h2 : f b a with
 | none => rw [betweenZ_one h2] at h ⊢; exact ⟨.inl ⟨rfl, rfl⟩, h⟩
 | some k =>
  cases h1 : f a b with
  | none => rw [betweenZ_back h2 h1]; exact ⟨.inr ⟨rfl, rfl⟩, by simp [h2]⟩
  | some i =>
   rw [betweenZ_two h2 h1]
   split
   ·exact ⟨.inr ⟨rfl, rfl⟩, by simp [h2]⟩
   ·exact ⟨.inl ⟨rfl, rfl⟩, by simp [h1]⟩
theorem bodyPlace_ok {r : Ru} (h : (bodyPlaceZ r).2 = true) : r.body.any isAt = true ∧ (bodyPlaceZ r).1.head = name0 r.args ∧
    ((placesL [] r.body = [(bodyPlaceZ r).1.from'] ∧ (bodyPlaceZ r).1.to' = ⟨#[]⟩ ∧ ((bodyPlaceZ r).1.head = (bodyPlaceZ r).1.from' ∨ (firstWay (bodyPlaceZ r).1.from' (bodyPlaceZ r).1.head r.body 0).isSome = true)) ∨
     (∃ a b, placesL [] r.body = [a, b] ∧ ((bodyPlaceZ r).1.from' = a ∧ (bodyPlaceZ r).1.to' = b ∨ (bodyPlaceZ r).1.from' = b ∧ (bodyPlaceZ r).1.to' = a) ∧ (firstWay (bodyPlaceZ r).1.from' (bodyPlaceZ r).1.to' r.body 0).isSome = true ∧ ((bodyPlaceZ r).1.head = a ∨ (bodyPlaceZ r).1.head = b))) := by
  rw [bodyPlaceZ] at h ⊢
  cases hany : r.body.any isAt with
  | false => rw [hany, if_neg (by decide)] at h; cases h
  | true =>
    rw [hany, if_pos rfl] at h
    rw [if_pos rfl]
    refine ⟨rfl, ?_⟩
    generalize placesL [] r.body = pl at *
    generalize hf : (fun a b => firstWay a b r.body 0) = f at *
    have hfe : ∀ a b, firstWay a b r.body 0 = f a b := fun a b => by rw [← hf]
    match pl, h with
    | [], h => simp [placeFrom] at h
    | [a], h =>
      rw [placeFrom] at h ⊢
      refine ⟨rfl, .inl ⟨rfl, rfl, ?_⟩⟩
      simp only at h ⊢
      rw [Bool.or_eq_true, eqS_iff] at h
      rw [hfe]
      exact h
    | [a, b], h =>
      rw [placeFrom] at h ⊢
      simp only [Bool.and_eq_true] at h
      obtain ⟨hb1, hb2⟩ := between_cases h.1
      refine ⟨rfl, .inr ⟨a, b, rfl, hb1, by rw [hfe]; exact hb2, ?_⟩⟩
      have := inB_iff.1 h.2
      simpa using this
    | a :: b :: c :: m, h => simp [placeFrom] at h
theorem from_in {r : Ru} (h : (bodyPlaceZ r).2 = true) : (bodyPlaceZ r).1.from' ∈ placesL [] r.body := by
 obtain ⟨-, -, h | ⟨a, b, h1, h2, -⟩⟩ := bodyPlace_ok h
 ·rw [h.1]; exact List.mem_singleton.2 rfl
 ·rw [h1]
  rcases h2 with h2 | h2
  ·rw [h2.1]; simp
  ·rw [h2.1]; simp
theorem placesL_some (p : ByteArray → Prop) : ∀ (l : List Li) (acc : List ByteArray), (∀ s ∈ acc, p s) → (∀ x ∈ l, hasPl x = true → p (name0 x.args)) → ∀ s ∈ placesL acc l, p s
 | [], acc, h, _ => h
 | x :: l, acc, h, hl => by
  rw [placesL]
  split
  ·rename_i hx
   refine placesL_some p l _ (fun s hs => ?_) (fun y hy => hl y (List.mem_cons_of_mem _ hy))
   rcases List.mem_append.1 hs with hs | hs
   ·exact h s hs
   ·rw [List.mem_singleton.1 hs]; exact hl x (List.mem_cons_self ..) hx.1
  ·exact placesL_some p l acc h (fun y hy => hl y (List.mem_cons_of_mem _ hy))
theorem ru_args {r : Ru} (h : ruB r = true) : (∀ t ∈ r.args, rightM 8 t = true) ∧ ∀ x ∈ r.body, ∀ t ∈ x.args, rightM 8 t = true := by
 rw [ruB] at h
 simp only [Bool.and_eq_true] at h
 obtain ⟨-, h1, -, h2⟩ := h
 have ha : ∀ {s : ByteArray} {l : List Tm}, atomB s l = true → ∀ t ∈ l, rightM 8 t = true := fun h => by
  rw [atomB] at h; simp only [Bool.and_eq_true] at h; exact (listB_bounds h.2.1).2.2
 refine ⟨ha h1, fun x hx => ?_⟩
 have hl := (listB_bounds h2).2.2 x hx
 rw [liB] at hl
 split at hl
 ·exact ha hl
 split at hl
 ·exact ha hl
 split at hl
 ·rw [Bool.and_eq_true] at hl; exact (listB_bounds hl.2).2.2
 split at hl
 ·rw [Bool.and_eq_true] at hl; exact (listB_bounds hl.2).2.2
 ·cases hl
theorem var_of {t : Tm} (h : rightM 8 t = true) (hk : t.kind = 1) : varB t.name = true := by
 cases t with
 | mk k s x l =>
  obtain rfl : k = 1 := hk
  rw [rightM, if_pos rfl] at h
  simp only [Bool.and_eq_true] at h
  exact h.1
theorem places_var {r : Ru} (h : ruB r = true) (hv : atVarsL r.body = true) : ∀ s ∈ placesL [] r.body, varB s = true := by
 refine placesL_some _ _ _ (fun _ h => by cases h) (fun x hx hp => ?_)
 have h1 := (ru_facts h).2.1 x hx hp
 rw [(kind0_at h1).2]
 refine var_of ((ru_args h).2 x hx _ (List.getElem_mem h1)) ?_
 rw [atVarsL, List.all_eq_true] at hv
 have := hv x hx
 rw [hp, (kind0_at h1).1] at this
 simpa using this
theorem var_pos {s : ByteArray} (h : varB s = true) : 1 ≤ s.size := by
 rw [varB] at h; exact (of_decide_eq_true h).1
end Go.Proofs.YtjohcnhiblfbnaaGreatDoor
namespace Go.Proofs.YtjohcnhiblfbnaaGreatDoor
open Go.RowKit
end Go.Proofs.YtjohcnhiblfbnaaGreatDoor
namespace Go.Proofs.YtjohcnhiblfbnaaGreatDoor
open Go.RowKit
end Go.Proofs.YtjohcnhiblfbnaaGreatDoor
namespace Go.Proofs.YtjohcnhiblfbnaaGreatDoor
open Go.RowKit
mutual
def varsM : Tm → List ByteArray
 | .mk k s _ l => (if k = 1 then [s] else []) ++ varsL l
def varsL : List Tm → List ByteArray
 | [] => []
 | t :: l => varsM t ++ varsL l
end
end Go.Proofs.YtjohcnhiblfbnaaGreatDoor
namespace Go.Proofs.YtjohcnhiblfbnaaGreatDoor
open Go.RowKit Go.Shelf
attribute [local go_sem] Oper.semAt_some
end Go.Proofs.YtjohcnhiblfbnaaGreatDoor
namespace Go.Proofs.YtjohcnhiblfbnaaGreatDoor
open Go.RowKit Go.Shelf
attribute [local go_sem] Oper.semAt_some
end Go.Proofs.YtjohcnhiblfbnaaGreatDoor
namespace Go.Proofs.YtjohcnhiblfbnaaGreatDoor
open Go.RowKit Go.Shelf
attribute [local go_sem] Oper.semAt_some
end Go.Proofs.YtjohcnhiblfbnaaGreatDoor
namespace Go.Proofs.YtjohcnhiblfbnaaGreatDoor
open Go.RowKit
end Go.Proofs.YtjohcnhiblfbnaaGreatDoor
namespace Go.Proofs.YtjohcnhiblfbnaaGreatDoor
open Go.RowKit
end Go.Proofs.YtjohcnhiblfbnaaGreatDoor
namespace Go.Proofs.YtjohcnhiblfbnaaGreatDoor
open Go.RowKit
end Go.Proofs.YtjohcnhiblfbnaaGreatDoor
namespace Go.Proofs.YtjohcnhiblfbnaaGreatDoor
open Go.RowKit
def nPre (s : ByteArray) : ByteArray := ⟨#[78]⟩ ++ s
theorem nPre_data (s : ByteArray) : nPre s = ⟨#[78] ++ s.data⟩ := ByteArray.ext (by rw [nPre, ByteArray.data_append])
theorem nPre_inj {s t : ByteArray} (h : nPre s = nPre t) : s = t := by
 rw [nPre_data, nPre_data] at h
 have h1 : #[78] ++ s.data = #[78] ++ t.data := congrArg ByteArray.data h
 exact ByteArray.ext ((Array.append_right_inj _).1 h1)
theorem inB_n (l : List ByteArray) (s : ByteArray) : inB (l.map nPre) (nPre s) = inB l s := by
 rw [Bool.eq_iff_iff, inB_iff, inB_iff]
 refine ⟨fun h => ?_, fun h => List.mem_map_of_mem h⟩
 obtain ⟨x, hx, e⟩ := List.mem_map.1 h
 rwa [← nPre_inj e]
mutual
def turnM : Tm → Tm
 | .mk k s x l => if k = 1 then .mk 1 (nPre s) zV [] else .mk k s x (turnL l)
def turnL : List Tm → List Tm
 | [] => []
 | t :: l => turnM t :: turnL l
end
theorem turnM_eq (t : Tm) : turnM t = if t.kind = 1 then .mk 1 (nPre t.name) zV [] else .mk t.kind t.name t.val (turnL t.args) := by
 cases t with
 | mk k s x l => rw [turnM]; rfl
theorem turnL_map : ∀ l : List Tm, turnL l = l.map turnM
 | [] => by rw [turnL]; rfl
 | t :: l => by rw [turnL, turnL_map l]; rfl
theorem turn_kind (t : Tm) : (turnM t).kind = t.kind := by
 rw [turnM_eq]
 split
 ·rename_i h; exact h.symm
 ·rfl
def turnLi (z : Li) : Li := ⟨z.kind, if z.kind = 4 then nPre z.name else z.name, turnL z.args⟩
def turnRu (r : Ru) : Ru := ⟨r.label, r.head, turnL r.args, r.agg, r.at', r.body.map turnLi⟩
def Few (s : ByteArray) : Prop := ∃ i : Nat, i < 6 ∧ s = vName i
theorem few_var {s : ByteArray} (h : Few s) : varB (nPre s) = true := by
 obtain ⟨i, hi, rfl⟩ := h
 rw [nPre_data]
 match i, hi with
 | 0, _ => decide
 | 1, _ => decide
 | 2, _ => decide
 | 3, _ => decide
 | 4, _ => decide
 | 5, _ => decide
theorem listB_turn {d : Nat} {a b : Int} {l : List Tm} (h : listB a b (rightM d) l = true) (hk : ∀ t ∈ l, rightM d (turnM t) = true) : listB a b (rightM d) (turnL l) = true := by
 obtain ⟨h1, h2, -⟩ := listB_bounds h
 rw [turnL_map]
 exact listB_of (by rw [List.length_map]; exact h1) (by rw [List.length_map]; exact h2) (fun y hy => by
  obtain ⟨x, hx, rfl⟩ := List.mem_map.1 hy
  exact hk x hx)
theorem varsL_mem {l : List Tm} {t : Tm} (h : t ∈ l) {s : ByteArray} (hs : s ∈ varsM t) : s ∈ varsL l := by
 induction l with
 | nil => cases h
 | cons x l ih =>
  rw [varsL, List.mem_append]
  rcases List.mem_cons.1 h with rfl | h
  ·exact .inl hs
  ·exact .inr (ih h)
theorem right_turn : ∀ (d : Nat) (t : Tm), rightM d t = true → (∀ s ∈ varsM t, Few s) → rightM d (turnM t) = true
 | 0, t, h, _ => by rw [rightM] at h; cases h
 | d + 1, .mk k s x l, h, hf => by
  rw [rightM] at h
  rw [varsM] at hf
  rw [turnM]
  by_cases h1 : k = 1
  ·rw [if_pos h1] at h hf ⊢
   rw [rightM, if_pos rfl, few_var (hf s (by simp)), noneZ]; rfl
  ·rw [if_neg h1] at h ⊢
   have hfl : ∀ y ∈ l, ∀ s ∈ varsM y, Few s := fun y hy s hs => hf s (List.mem_append_right _ (varsL_mem hy hs))
   rw [rightM, if_neg h1]
   by_cases h2 : k = 2
   ·rw [if_pos h2] at h ⊢
    simp only [Bool.and_eq_true, List.isEmpty_iff] at h ⊢
    refine ⟨h.1, h.2.1, ?_⟩
    rw [h.2.2, turnL]
   ·rw [if_neg h2] at h ⊢
    by_cases h3 : k = 3
    ·rw [if_pos h3] at h ⊢
     simp only [Bool.and_eq_true] at h ⊢
     exact ⟨h.1, listB_turn h.2 (fun y hy => right_turn d y ((listB_bounds h.2).2.2 y hy) (hfl y hy))⟩
    ·rw [if_neg h3] at h ⊢
     by_cases h4 : k = 4
     ·rw [if_pos h4] at h ⊢
      simp only [Bool.and_eq_true] at h ⊢
      exact ⟨h.1, h.2.1, listB_turn h.2.2 (fun y hy => right_turn d y ((listB_bounds h.2.2).2.2 y hy) (hfl y hy))⟩
     ·rw [if_neg h4] at h; cases h
theorem place_turn {t : Tm} (h : placeB t = true) : placeB (turnM t) = true := by
 rw [placeB, turn_kind]
 rw [placeB] at h
 rw [turnM_eq]
 split
 ·rename_i h1; rw [h1]; rfl
 ·exact h
theorem head_turn {l : List Tm} (h : headB l = true) : headB (turnL l) = true := by
 cases l with
 | nil => exact h
 | cons t l => rw [turnL]; exact place_turn h
theorem atom_turn {s : ByteArray} {l : List Tm} (h : atomB s l = true) (hf : ∀ v ∈ varsL l, Few v) : atomB s (turnL l) = true := by
 rw [atomB] at h ⊢
 simp only [Bool.and_eq_true] at h ⊢
 exact ⟨h.1, listB_turn h.2.1 (fun y hy => right_turn 8 y ((listB_bounds h.2.1).2.2 y hy) (fun s hs => hf s (varsL_mem hy hs))), head_turn h.2.2⟩
def FewLi (z : Li) : Prop := (∀ v ∈ varsL z.args, Few v) ∧ (z.kind = 4 → Few z.name)
def FewRu (r : Ru) : Prop := (∀ v ∈ varsL r.args, Few v) ∧ ∀ z ∈ r.body, FewLi z
theorem li_turn {z : Li} (h : liB z = true) (hf : FewLi z) : liB (turnLi z) = true := by
 rw [liB] at h
 rw [liB, turnLi]
 by_cases h1 : z.kind = 1
 ·rw [if_pos h1] at h
  rw [if_pos h1]
  show atomB (if z.kind = 4 then _ else _) _ = true
  rw [if_neg (by omega)]
  exact atom_turn h hf.1
 ·rw [if_neg h1] at h
  rw [if_neg h1]
  by_cases h2 : z.kind = 2
  ·rw [if_pos h2] at h
   rw [if_pos h2]
   show atomB (if z.kind = 4 then _ else _) _ = true
   rw [if_neg (by omega)]
   exact atom_turn h hf.1
  ·rw [if_neg h2] at h
   rw [if_neg h2]
   by_cases h3 : z.kind = 3
   ·rw [if_pos h3] at h
    rw [if_pos h3]
    simp only [Bool.and_eq_true] at h ⊢
    refine ⟨?_, listB_turn h.2 (fun y hy => right_turn 8 y ((listB_bounds h.2).2.2 y hy) (fun s hs => hf.1 s (varsL_mem hy hs)))⟩
    rw [if_neg (by omega)]; exact h.1
   ·rw [if_neg h3] at h
    rw [if_neg h3]
    by_cases h4 : z.kind = 4
    ·rw [if_pos h4] at h
     rw [if_pos h4]
     simp only [Bool.and_eq_true] at h ⊢
     refine ⟨?_, listB_turn h.2 (fun y hy => right_turn 8 y ((listB_bounds h.2).2.2 y hy) (fun s hs => hf.1 s (varsL_mem hy hs)))⟩
     rw [if_pos h4]; exact few_var (hf.2 h4)
    ·rw [if_neg h4] at h; cases h
theorem kindAt_turn (l : List Tm) (i : Int) : kindAt (turnL l) i = kindAt l i := by
 rw [kindAt, kindAt, turnL_map, List.getElem?_map]
 cases l[i.toNat]? with
 | none => rfl
 | some t => exact turn_kind t
theorem ru_turn {r : Ru} (h : ruB r = true) (hf : FewRu r) : ruB (turnRu r) = true := by
 rw [ruB] at h ⊢
 simp only [Bool.and_eq_true] at h ⊢
 obtain ⟨h1, h2, h3, h4⟩ := h
 obtain ⟨b1, b2, b3⟩ := listB_bounds h4
 refine ⟨h1, atom_turn h2 hf.1, ?_, listB_of (by rw [turnRu, List.length_map]; exact b1) (by rw [turnRu, List.length_map]; exact b2) (fun y hy => ?_)⟩
 ·rw [aggB] at h3 ⊢
  have hl : (turnRu r).args.length = r.args.length := by rw [turnRu, turnL_map, List.length_map]
  rw [hl, show kindAt (turnRu r).args (turnRu r).at' = kindAt r.args r.at' from kindAt_turn _ _]
  exact h3
 ·obtain ⟨z, hz, rfl⟩ := List.mem_map.1 hy
  exact li_turn (b3 z hz) (hf.2 z hz)
-- raw programs
theorem few_v (c : Int) : ∀ s ∈ varsM (vZ c), Few s := by
 obtain ⟨i, hi, hn, hb⟩ := pick_nat c (n := 6) (by omega)
 intro s hs
 rw [vZ, hn, vTm, varsM, if_pos rfl, varsL, List.append_nil, List.mem_singleton] at hs
 exact ⟨i, by omega, hs⟩
theorem few_num (n : Int) : ∀ s ∈ varsM (numZ n), Few s := by
 intro s hs; rw [numZ, varsM, if_neg (by decide), varsL] at hs; cases hs
theorem few_sum {a b : Tm} {o : ByteArray} (ha : ∀ s ∈ varsM a, Few s) (hb : ∀ s ∈ varsM b, Few s) : ∀ s ∈ varsM (sumZ a b o), Few s := by
 intro s hs
 rw [sumZ, varsM, if_neg (by decide), varsL, varsL, varsL, List.nil_append, List.append_nil, List.mem_append] at hs
 rcases hs with hs | hs
 ·exact ha s hs
 ·exact hb s hs
theorem few_arg (c : Int) : ∀ s ∈ varsM (argZ c), Few s := by
 rw [argZ]
 split
 ·exact few_num _
 ·split
  ·intro s hs; rw [adrZ, varsM, if_neg (by decide), varsL] at hs; cases hs
  ·split
   ·exact few_sum (few_v _) (few_num _)
   ·exact few_v c
theorem few_list {l : List Tm} (h : ∀ t ∈ l, ∀ s ∈ varsM t, Few s) : ∀ s ∈ varsL l, Few s := by
 induction l with
 | nil => intro s hs; rw [varsL] at hs; cases hs
 | cons t l ih =>
  intro s hs
  rw [varsL, List.mem_append] at hs
  rcases hs with hs | hs
  ·exact h t (by simp) s hs
  ·exact ih (fun x hx => h x (by simp [hx])) s hs
theorem few_atom (x : Rw) : ∀ s ∈ varsL (atomZ x), Few s := few_list (fun t ht => by
 rw [atomZ, atomTo] at ht
 rcases List.mem_cons.1 ht with rfl | ht
 ·exact few_v _
 ·obtain ⟨i, -, rfl⟩ := List.mem_map.1 ht
  exact few_arg _)
theorem few_lit (x : Rw) : FewLi (litZ x) := by
 rw [litZ]
 split
 ·exact ⟨few_atom x, fun h => by cases h⟩
 ·split
  ·exact ⟨few_atom x, fun h => by cases h⟩
  ·split
   ·refine ⟨few_list (fun t ht => ?_), fun h => by cases h⟩
    rcases List.mem_cons.1 ht with rfl | ht
    ·exact few_v _
    ·rw [List.mem_singleton.1 ht]
     split
     ·exact few_num _
     ·exact few_v _
   ·refine ⟨few_list (fun t ht => ?_), fun _ => ?_⟩
    ·rw [List.mem_singleton.1 ht]
     refine few_sum (few_v _) ?_
     split
     ·exact few_num _
     ·exact few_v _
    ·obtain ⟨i, hi, hn, hb⟩ := pick_nat x.n0 (n := 6) (by omega)
     exact ⟨i, by omega, by show vName _ = _; rw [hn]⟩
theorem few_rule (l : List Rw) (n : Int) : FewRu (ruleZ l n) := by
 have hb : ∀ z ∈ bodyZ l, FewLi z := by
  intro z hz
  rw [bodyZ] at hz
  split at hz
  ·rw [List.mem_singleton.1 hz]; exact few_lit _
  ·obtain ⟨x, -, rfl⟩ := List.mem_map.1 hz
   exact few_lit _
 rw [ruleZ]
 split
 ·exact ⟨few_atom _, hb⟩
 ·exact ⟨few_atom _, hb⟩
end Go.Proofs.YtjohcnhiblfbnaaGreatDoor
namespace Go.Proofs.YtjohcnhiblfbnaaGreatDoor
open Go.RowKit
theorem nil_empty : (⟨#[]⟩ : ByteArray).toList.isEmpty = true := by rw [Lib.toList_data]; rfl
theorem eqS_n (a b : ByteArray) : eqS (nPre a) (nPre b) = eqS a b := by
 rw [Bool.eq_iff_iff, eqS_iff, eqS_iff]
 exact ⟨nPre_inj, fun h => by rw [h]⟩
theorem kind0_turn (l : List Tm) : kind0 (turnL l) = kind0 l := by
 cases l with
 | nil => simp [turnL]
 | cons t l => rw [turnL]; exact turn_kind t
theorem name0_turn {l : List Tm} (h : kind0 l = 1) : name0 (turnL l) = nPre (name0 l) := by
 cases l with
 | nil => cases h
 | cons t l => rw [turnL]; show (turnM t).name = nPre t.name; rw [turnM_eq, if_pos (show t.kind = 1 from h)]; rfl
theorem drop_turn (l : List Tm) : (turnL l).drop 1 = turnL (l.drop 1) := by
 cases l with
 | nil => simp [turnL]
 | cons t l => rw [turnL]; rfl
theorem len_turn (l : List Tm) : (turnL l).length = l.length := by rw [turnL_map, List.length_map]
theorem hasPl_turn (x : Li) : hasPl (turnLi x) = hasPl x := rfl
theorem isLk_turn (x : Li) : isLk (turnLi x) = isLk x := by
 rw [isLk, isLk]
 show (isAt x && (eqS (turnLi x).name linkS && (decide (1 < (turnL x.args).length) && kind0 ((turnL x.args).drop 1) == 1))) = _
 rw [len_turn, drop_turn, kind0_turn]
 cases h : isAt x with
 | false => rfl
 | true =>
  rw [isAt, beq_iff_eq] at h
  rw [show (turnLi x).name = x.name by show (if x.kind = 4 then _ else _) = _; rw [if_neg (by omega)]]
theorem onWay_turn {x : Li} (hx : hasPl x = true → kind0 x.args = 1) (a b : ByteArray) : onWay (nPre a) (nPre b) (turnLi x) = onWay a b x := by
 rw [onWay, onWay, isLk_turn]
 cases h : isLk x with
 | false => rfl
 | true =>
  have h2 := h
  rw [isLk, isAt] at h2
  simp only [Bool.and_eq_true, decide_eq_true_eq, beq_iff_eq] at h2
  have h1 := hx (by rw [hasPl, h2.1]; rfl)
  show (true && (eqS (name0 (turnL x.args)) _ && eqS (name0 ((turnL x.args).drop 1)) _)) = _
  rw [drop_turn, name0_turn h1, name0_turn h2.2.2.2, eqS_n, eqS_n]
theorem at_kind {body : List Li} (h : atVarsL body = true) : ∀ x ∈ body, hasPl x = true → kind0 x.args = 1 := fun x hx hp => by
 rw [atVarsL, List.all_eq_true] at h
 have := h x hx
 rw [hp] at this
 simpa using this
theorem atVars_turn (body : List Li) : atVarsL (body.map turnLi) = atVarsL body := by
 rw [atVarsL, atVarsL, List.all_map]
 congr 1
 funext x
 show (!hasPl x || kind0 (turnL x.args) == 1) = _
 rw [kind0_turn]
theorem any_turn (body : List Li) : (body.map turnLi).any isAt = body.any isAt := by
 rw [List.any_map]; rfl
theorem firstWay_turn (a b : ByteArray) : ∀ (l : List Li) (i : Nat), (∀ x ∈ l, hasPl x = true → kind0 x.args = 1) → firstWay (nPre a) (nPre b) (l.map turnLi) i = firstWay a b l i
 | [], _, _ => rfl
 | x :: l, i, h => by
  rw [List.map_cons, firstWay, firstWay, onWay_turn (h x (List.mem_cons_self ..)), firstWay_turn a b l (i + 1) (fun y hy => h y (List.mem_cons_of_mem _ hy))]
theorem placesL_turn : ∀ (l : List Li) (acc : List ByteArray), (∀ x ∈ l, hasPl x = true → kind0 x.args = 1) → placesL (acc.map nPre) (l.map turnLi) = (placesL acc l).map nPre
 | [], _, _ => rfl
 | x :: l, acc, h => by
  rw [List.map_cons, placesL, placesL]
  have ih := fun acc => placesL_turn l acc (fun y hy => h y (List.mem_cons_of_mem _ hy))
  cases hp : hasPl x with
  | false => rw [if_neg (by rw [hasPl_turn, hp]; simp), if_neg (by simp)]; exact ih acc
  | true =>
   have e : name0 (turnLi x).args = nPre (name0 x.args) := name0_turn (h x (List.mem_cons_self ..) hp)
   rw [e, hasPl_turn, hp, inB_n]
   split
   ·rw [← ih, List.map_append]; rfl
   ·exact ih acc
def turnPl (p : Pl) : Pl := ⟨nPre p.from', if p.to'.toList.isEmpty = true then ⟨#[]⟩ else nPre p.to', nPre p.head⟩
theorem empty_n (s : ByteArray) : (nPre s).toList.isEmpty = false := by
 rw [Lib.toList_data, nPre_data]; simp
theorem between_turn {f g : ByteArray → ByteArray → Option Nat} (hf : ∀ a b, g (nPre a) (nPre b) = f a b) (a b : ByteArray) : betweenZ g (nPre a) (nPre b) = (nPre (betweenZ f a b).1, nPre (betweenZ f a b).2.1, (betweenZ f a b).2.2) := by
 rw [betweenZ, betweenZ, hf, hf]
 cases f b a with
 | none => rfl
 | some k =>
  cases f a b with
  | none => rfl
  | some i => simp only; split <;> rfl
theorem from_turn {f g : ByteArray → ByteArray → Option Nat} (hf : ∀ a b, g (nPre a) (nPre b) = f a b) (h : ByteArray) (l : List ByteArray) (hl : ∀ s ∈ l, s.toList.isEmpty = false) :
  (placeFrom (nPre h) g (l.map nPre)).2 = (placeFrom h f l).2 ∧ ((placeFrom h f l).2 = true → (placeFrom (nPre h) g (l.map nPre)).1 = turnPl (placeFrom h f l).1) := by
 match l, hl with
 | [], _ => exact ⟨rfl, fun h => by cases h⟩
 | [a], _ =>
  refine ⟨?_, fun _ => by
   show (⟨nPre a, ⟨#[]⟩, nPre h⟩ : Pl) = ⟨nPre a, if (⟨#[]⟩ : ByteArray).toList.isEmpty = true then ⟨#[]⟩ else nPre ⟨#[]⟩, nPre h⟩
   rw [if_pos nil_empty]⟩
  show (eqS (nPre h) (nPre a) || (g (nPre a) (nPre h)).isSome) = _
  rw [eqS_n, hf]; rfl
 | [a, b], hl =>
  simp only [List.map_cons, List.map_nil, placeFrom]
  rw [between_turn hf]
  have hi : inB [nPre a, nPre b] (nPre h) = inB [a, b] h := inB_n [a, b] h
  refine ⟨by rw [hi], fun hok => ?_⟩
  rw [Bool.and_eq_true] at hok
  have hne : (betweenZ f a b).2.1.toList.isEmpty = false := by
   rcases (between_cases hok.1).1 with ⟨-, e⟩ | ⟨-, e⟩
   ·rw [e]; exact hl _ (by simp)
   ·rw [e]; exact hl _ (by simp)
  rw [turnPl]
  simp only [hne]
  rfl
 | a :: b :: c :: m, _ => exact ⟨rfl, fun h => by cases h⟩
theorem loc_turn {r : Ru} (h : ruB r = true) (hf : FewRu r) : (placeZ (turnRu r)).2 = (placeZ r).2 ∧ ((placeZ r).2 = true → (placeZ (turnRu r)).1 = turnPl (placeZ r).1) := by
 have hr := ru_turn h hf
 rw [placeZ, placeZ, hr, h]
 have e1 : eqS (turnRu r).head linkS = eqS r.head linkS := rfl
 have e2 : atVarsL (turnRu r).body = atVarsL r.body := atVars_turn r.body
 have e3 : kind0 (turnRu r).args = kind0 r.args := kind0_turn r.args
 rw [e1, e2, e3]
 by_cases hc : (true = true) ∧ eqS r.head linkS = false ∧ atVarsL r.body = true ∧ kind0 r.args = 1
 ·rw [if_pos hc, if_pos hc]
  have hk := at_kind hc.2.2.1
  have hb : (bodyPlaceZ (turnRu r)).2 = (bodyPlaceZ r).2 ∧ ((bodyPlaceZ r).2 = true → (bodyPlaceZ (turnRu r)).1 = turnPl (bodyPlaceZ r).1) := by
   rw [bodyPlaceZ, bodyPlaceZ]
   have e4 : (turnRu r).body.any isAt = r.body.any isAt := any_turn r.body
   have e5 : name0 (turnRu r).args = nPre (name0 r.args) := name0_turn hc.2.2.2
   have e6 : placesL [] (turnRu r).body = (placesL [] r.body).map nPre := placesL_turn r.body [] hk
   rw [e4, e5, e6]
   cases hany : r.body.any isAt with
   | false => exact ⟨rfl, fun h => by cases h⟩
   | true =>
    rw [if_pos rfl, if_pos rfl]
    refine from_turn (fun a b => firstWay_turn a b r.body 0 hk) _ _ (fun s hs => ?_)
    have := var_pos (places_var h hc.2.2.1 s hs)
    rw [Bool.eq_false_iff]
    intro hc
    rw [Lib.toList_data, List.isEmpty_iff] at hc
    have h0 : s.size = s.data.toList.length := by rw [Array.length_toList]; rfl
    rw [hc, List.length_nil] at h0; omega
  cases h2 : (bodyPlaceZ r).2 with
  | false => rw [if_neg (by rw [hb.1, h2]; simp), if_neg (by simp)]; exact ⟨rfl, fun h => by cases h⟩
  | true =>
   have e7 : aggFits (turnRu r) (bodyPlaceZ (turnRu r)).1 = aggFits r (bodyPlaceZ r).1 := by
    rw [hb.2 h2, aggFits, aggFits, turnPl]
    show (r.agg.toList.isEmpty || ((if _ then _ else _ : ByteArray).toList.isEmpty && eqS (nPre _) (nPre _))) = _
    rw [eqS_n]
    cases ht : (bodyPlaceZ r).1.to'.toList.isEmpty with
    | true => rw [if_pos rfl, nil_empty]
    | false => rw [if_neg (by simp), empty_n]
   rw [e7, hb.1, h2]
   split
   ·exact ⟨rfl, fun _ => hb.2 h2⟩
   ·exact ⟨rfl, fun h => by cases h⟩
 ·rw [if_neg hc, if_neg hc]; exact ⟨rfl, fun h => by cases h⟩
end Go.Proofs.YtjohcnhiblfbnaaGreatDoor
