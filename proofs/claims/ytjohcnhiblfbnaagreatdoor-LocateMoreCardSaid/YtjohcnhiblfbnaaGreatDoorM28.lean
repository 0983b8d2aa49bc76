/-
  SixFact, SixRight, LocPure, SixProgram, Open, LawPost, LawBase, SetOff
-/
import Derived.Test.YtjohcnhiblfbnaaGreatDoorM05
import Derived.Test.YtjohcnhiblfbnaaGreatDoorM09
import Derived.Test.YtjohcnhiblfbnaaGreatDoorM27
import Derived.Test.YtjohcnhiblfbnaaGreatDoorM03
import Derived.Test.YtjohcnhiblfbnaaGreatDoorM22
import Derived.Test.YtjohcnhiblfbnaaGreatDoorM01
import Derived.Test.YtjohcnhiblfbnaaGreatDoorRows
import Derived.Test.YtjohcnhiblfbnaaGreatDoorM13
import Derived.Test.YtjohcnhiblfbnaaGreatDoorCards
import Derived.Test.YtjohcnhiblfbnaaGreatDoorTie
import Derived.Test.YtjohcnhiblfbnaaGreatDoorM04
import Derived.Deep.CutRange
import Derived.Deep.Cut
import Derived.ProofKit
import Derived.Lib.SmallJoins
import Derived.Deep.Slices
import Derived.OpenShut
import Derived.Deep.DeepHandedRow
import Derived.Lib.LaidTab
namespace Go.Proofs.YtjohcnhiblfbnaaGreatDoor
open Go.RowKit
end Go.Proofs.YtjohcnhiblfbnaaGreatDoor
namespace Go.Proofs.YtjohcnhiblfbnaaGreatDoor
open Go.RowKit
theorem listB_of {α : Type} {least most : Int} {R : α → Bool} {l : List α} (h1 : least ≤ (l.length : Int)) (h2 : (l.length : Int) ≤ most) (h : ∀ x ∈ l, R x = true) : listB least most R l = true := by
 rw [listB_some h1 h2, List.all_eq_true]; exact h
theorem vName_var {i : Nat} (h : i < 6) : varB (vName i) = true := by
 match i, h with
 | 0, _ => decide
 | 1, _ => decide
 | 2, _ => decide
 | 3, _ => decide
 | 4, _ => decide
 | 5, _ => decide
theorem pick_nat (c : Int) {n : Int} (hn : 1 ≤ n) : ∃ i : Nat, pickZ c n = (i : Int) ∧ (pickZ c n).toNat = i ∧ (i : Int) < n := by
 have h := pickZ_bd c n hn
 obtain ⟨i, hi⟩ := Int.eq_ofNat_of_zero_le h.1
 exact ⟨i, hi, by rw [hi]; simp, by omega⟩
theorem noneZ : noneB zV = true := by simp [noneB, zV, V.kind, V.num, V.text, V.list, Lib.toList_data]
theorem right_v (d : Nat) (c : Int) : rightM (d + 1) (vZ c) = true := by
 obtain ⟨i, hi, hn, hb⟩ := pick_nat c (n := 6) (by omega)
 rw [vZ, hn, vTm, rightM, if_pos rfl, vName_var (by omega), noneZ]
 rfl
theorem right_num (d : Nat) {n : Int} (h0 : 0 ≤ n) (h : n ≤ 10) : rightM (d + 1) (numZ n) = true := by
 rw [numZ, rightM, if_neg (by decide), if_pos rfl]
 simp [valB, rightV, baseB, V.kind, V.text, Lib.toList_data]
 omega
theorem adr_name {i : Nat} (h : i < 4) : nameB (adrName i) = true ∧ fnB (adrName i) = false := by
 match i, h with
 | 0, _ => exact ⟨by decide, by simp [fnB, fnOf, fnArity, adrName, Lib.toList_data]⟩
 | 1, _ => exact ⟨by decide, by simp [fnB, fnOf, fnArity, adrName, Lib.toList_data]⟩
 | 2, _ => exact ⟨by decide, by simp [fnB, fnOf, fnArity, adrName, Lib.toList_data]⟩
 | 3, _ => exact ⟨by decide, by simp [fnB, fnOf, fnArity, adrName, Lib.toList_data]⟩
theorem right_adr (d i : Nat) (h : i < 4) : rightM (d + 1) (adrZ i) = true := by
 rw [adrZ, rightM, if_neg (by decide), if_pos rfl]
 obtain ⟨h1, h2⟩ := adr_name h
 simp [valB, rightV, baseB, V.kind, V.text, Lib.toList_data, h1, h2]
theorem right_sum (d : Nat) {a b : Tm} {s : ByteArray} (ha : rightM d a = true) (hb : rightM d b = true) (hs : opB s = true) : rightM (d + 1) (sumZ a b s) = true := by
 rw [sumZ, rightM, if_neg (by decide), if_neg (by decide), if_neg (by decide), if_pos rfl, hs, listB_of (by simp) (by simp) (fun x hx => by
  rcases List.mem_cons.1 hx with rfl | hx
  ·exact ha
  ·rw [List.mem_singleton.1 hx]; exact hb), noneZ]
 rfl
theorem right_arg (c : Int) : rightM 8 (argZ c) = true := by
 rw [argZ]
 split
 ·have := pickZ_bd (c.tdiv 12) 4 (by omega)
  exact right_num 7 this.1 (by omega)
 ·split
  ·obtain ⟨i, hi, hn, hb⟩ := pick_nat (c.tdiv 12) (n := 3) (by omega)
   rw [hn]; exact right_adr 7 i (by omega)
  ·split
   ·exact right_sum 7 (right_v 6 _) (right_num 6 (by decide) (by decide)) (by simp [opB, Lib.toList_data])
   ·exact right_v 7 c
theorem rel6 {i : Nat} (h : i < 6) : relB (decl6 i).name = true := by
 match i, h with
 | 0, _ =>
  have h1 : nameB (decl6 0).name = true := by decide
  rw [relB, h1]
  simp [fnB, fnOf, fnArity, declB, decl6, decls6, Lib.toList_data]
 | 1, _ =>
  have h1 : nameB (decl6 1).name = true := by decide
  rw [relB, h1]
  simp [fnB, fnOf, fnArity, declB, decl6, decls6, Lib.toList_data]
 | 2, _ =>
  have h1 : nameB (decl6 2).name = true := by decide
  rw [relB, h1]
  simp [fnB, fnOf, fnArity, declB, decl6, decls6, Lib.toList_data]
 | 3, _ =>
  have h1 : nameB (decl6 3).name = true := by decide
  rw [relB, h1]
  simp [fnB, fnOf, fnArity, declB, decl6, decls6, Lib.toList_data]
 | 4, _ =>
  have h1 : nameB (decl6 4).name = true := by decide
  rw [relB, h1]
  simp [fnB, fnOf, fnArity, declB, decl6, decls6, Lib.toList_data]
 | 5, _ =>
  have h1 : nameB (decl6 5).name = true := by decide
  rw [relB, h1]
  simp [fnB, fnOf, fnArity, declB, decl6, decls6, Lib.toList_data]
theorem rel_of (x : Rw) : relB (declOf x).name = true := by
 obtain ⟨i, hi, hn, hb⟩ := pick_nat x.name (n := 6) (by omega)
 rw [declOf, hn]; exact rel6 (by omega)
theorem right_atom (x : Rw) : atomB (declOf x).name (atomZ x) = true := by
 have hl := atomZ_len x
 have hh : headB (atomZ x) = true := by rw [atomZ, atomTo, headB]; rfl
 rw [atomB, rel_of, hh, listB_of (by rw [atomZ, atomTo, List.length_cons]; omega) (by omega) (fun y hy => by
  rw [atomZ, atomTo] at hy
  rcases List.mem_cons.1 hy with rfl | hy
  ·exact right_v 7 _
  ·obtain ⟨i, -, rfl⟩ := List.mem_map.1 hy
   exact right_arg _)]
 rfl
theorem right_cmp {j : Nat} (h : j < 6) : cmpB (cmp6 j) = true := by
 match j, h with
 | 0, _ => simp [cmpB, cmp6, Lib.toList_data]
 | 1, _ => simp [cmpB, cmp6, Lib.toList_data]
 | 2, _ => simp [cmpB, cmp6, Lib.toList_data]
 | 3, _ => simp [cmpB, cmp6, Lib.toList_data]
 | 4, _ => simp [cmpB, cmp6, Lib.toList_data]
 | 5, _ => simp [cmpB, cmp6, Lib.toList_data]
theorem right_lit (x : Rw) : liB (litZ x) = true := by
 rw [litZ]
 split
 ·rw [liB, if_pos rfl]; exact right_atom x
 ·split
  ·show atomB _ _ = true; exact right_atom x
  ·split
   ·obtain ⟨j, hj, hn, hb⟩ := pick_nat x.name (n := 6) (by omega)
    have h4 := pickZ_bd x.n2 4 (by omega)
    show (cmpB (cmp6 (pickZ x.name 6).toNat) && listB 2 2 (rightM 8) _) = true
    rw [hn, right_cmp (by omega), listB_of (by simp) (by simp) (fun y hy => by
     rcases List.mem_cons.1 hy with rfl | hy
     ·exact right_v 7 _
     ·rw [List.mem_singleton.1 hy]
      split
      ·exact right_num 7 h4.1 (by omega)
      ·exact right_v 7 _)]
    rfl
   ·obtain ⟨i, hi, hn, hb⟩ := pick_nat x.n0 (n := 6) (by omega)
    show (varB (vName (pickZ x.n0 6).toNat) && listB 1 1 (rightM 8) _) = true
    rw [hn, vName_var (by omega), listB_of (by simp) (by simp) (fun y hy => by
     rw [List.mem_singleton.1 hy]
     refine right_sum 7 (right_v 6 _) ?_ ?_
     ·split
      ·exact right_num 6 (by decide) (by decide)
      ·exact right_v 6 _
     ·split
      ·simp [opB, Lib.toList_data]
      ·simp [opB, Lib.toList_data])]
    rfl
theorem right_label (n : Int) : relB (labelZ n) = true := by
 obtain ⟨r, hr, hn, hb⟩ := pick_nat n (n := 26) (by omega)
 have h1 : ∀ r : Nat, r < 26 → nameB ⟨#[114, UInt8.ofNat (97 + r)]⟩ = true := by decide
 rw [labelZ, hn, relB, h1 r (by omega)]
 simp [fnB, fnOf, fnArity, declB, Lib.toList_data]
theorem right_agg {g : Nat} (h : g < 3) : (agg6 g).toList.isEmpty = false ∧ aggNameB (agg6 g) = true := by
 match g, h with
 | 0, _ => simp [agg6, aggNameB, Lib.toList_data]
 | 1, _ => simp [agg6, aggNameB, Lib.toList_data]
 | 2, _ => simp [agg6, aggNameB, Lib.toList_data]
theorem right_body (l : List Rw) : listB 1 8 liB (bodyZ l) = true := by
 rw [bodyZ_eq]
 have h5 := bodyTo_len l 5
 split
 ·exact listB_of (by simp) (by simp) (fun y hy => by rw [List.mem_singleton.1 hy]; exact right_lit _)
 ·rename_i h
  have : 0 < (bodyTo l 5).length := List.length_pos_iff.2 h
  exact listB_of (by omega) (by omega) (fun y hy => by
   rw [bodyTo] at hy
   obtain ⟨x, -, rfl⟩ := List.mem_map.1 hy
   exact right_lit _)
theorem right_rule (l : List Rw) (n : Int) : ruB (ruleZ l n) = true := by
 rw [ruleZ]
 split
 ·rename_i h
  rw [aggOn] at h
  simp only [Bool.and_eq_true, decide_eq_true_eq, beq_iff_eq] at h
  obtain ⟨-, h1, h2⟩ := h
  obtain ⟨g, hg, hn, hb⟩ := pick_nat ((headRw l).kind.tdiv 5) (n := 3) (by omega)
  obtain ⟨a1, a2⟩ := right_agg (show g < 3 by omega)
  have hk : kindAt (atomZ (headRw l)) 1 = 1 := by
   rw [List.getD, List.getElem?_eq_getElem h1] at h2
   rw [kindAt, show (1 : Int).toNat = 1 from rfl, List.getElem?_eq_getElem h1]; exact h2
  rw [ruB, hn, right_label, right_atom, right_body, aggB, a1, if_neg (by decide), a2, hk, decide_eq_true (show (1 : Int) < ((atomZ (headRw l)).length : Int) by omega)]
  rfl
 ·rw [ruB, right_label, right_atom, right_body, aggB, if_pos (by simp [Lib.toList_data])]
  rfl
end Go.Proofs.YtjohcnhiblfbnaaGreatDoor
namespace Go.Proofs.YtjohcnhiblfbnaaGreatDoor
open Go.RowKit
theorem placeZ_ok {r : Ru} (h : (placeZ r).2 = true) : ruB r = true ∧ eqS r.head linkS = false ∧ atVarsL r.body = true ∧ kind0 r.args = 1 ∧ (bodyPlaceZ r).2 = true ∧ aggFits r (bodyPlaceZ r).1 = true ∧ placeZ r = ((bodyPlaceZ r).1, true) := by
 rw [placeZ] at h ⊢
 split at h
 ·rename_i h1
  split at h
  ·rename_i h2
   rw [if_pos h1, if_pos h2]
   exact ⟨h1.1, h1.2.1, h1.2.2.1, h1.2.2.2, h2.1, h2.2, rfl⟩
  ·cases h
 ·cases h
theorem placeZ_no {r : Ru} (h : (placeZ r).2 = false) : placeZ r = (zPl, false) := by
 rw [placeZ] at h ⊢
 split at h
 ·rename_i h1
  split at h
  ·cases h
  ·rename_i h2; rw [if_pos h1, if_neg h2]
 ·rename_i h1; rw [if_neg h1]
theorem placeZ_of {r : Ru} (h1 : ruB r = true) (h2 : eqS r.head linkS = false) (h3 : atVarsL r.body = true) (h4 : kind0 r.args = 1) (h5 : (bodyPlaceZ r).2 = true) (h6 : aggFits r (bodyPlaceZ r).1 = true) : placeZ r = ((bodyPlaceZ r).1, true) := by
 rw [placeZ, if_pos ⟨h1, h2, h3, h4⟩, if_pos ⟨h5, h6⟩]
theorem bodyPlace_congr {r s : Ru} (h1 : s.body.any isAt = r.body.any isAt) (h2 : placesL [] s.body = placesL [] r.body) (h3 : ∀ a b, firstWay a b s.body 0 = firstWay a b r.body 0) (h4 : name0 s.args = name0 r.args) : bodyPlaceZ s = bodyPlaceZ r := by
 rw [bodyPlaceZ, bodyPlaceZ, h1, h2, h4, show (fun a b => firstWay a b s.body 0) = (fun a b => firstWay a b r.body 0) from funext fun a => funext fun b => h3 a b]
theorem between_cases {f : ByteArray → ByteArray → Option Nat} {a b : ByteArray} (h : (betweenZ f a b).2.2 = true) : ((betweenZ f a b).1 = a ∧ (betweenZ f a b).2.1 = b ∨ (betweenZ f a b).1 = b ∧ (betweenZ f a b).2.1 = a) ∧ (f (betweenZ f a b).1 (betweenZ f a b).2.1).isSome = true := by
 cases h2 : f b a with
 | none => rw [betweenZ_one h2] at h ⊢; exact ⟨.inl ⟨rfl, rfl⟩, h⟩
 | some k =>
  cases h1 : f a b with
  | none => rw [betweenZ_back h2 h1]; exact ⟨.inr ⟨rfl, rfl⟩, by simp [h2]⟩
  | some i =>
   rw [betweenZ_two h2 h1]
   split
   ·exact ⟨.inr ⟨rfl, rfl⟩, by simp [h2]⟩
   ·exact ⟨.inl ⟨rfl, rfl⟩, by simp [h1]⟩
theorem bodyPlace_ok {r : Ru} (h : (bodyPlaceZ r).2 = true) : r.body.any isAt = true ∧ (bodyPlaceZ r).1.head = name0 r.args ∧
    ((placesL [] r.body = [(bodyPlaceZ r).1.from'] ∧ (bodyPlaceZ r).1.to' = ⟨#[]⟩ ∧ ((bodyPlaceZ r).1.head = (bodyPlaceZ r).1.from' ∨ (firstWay (bodyPlaceZ r).1.from' (bodyPlaceZ r).1.head r.body 0).isSome = true)) ∨
     (∃ a b, placesL [] r.body = [a, b] ∧ ((bodyPlaceZ r).1.from' = a ∧ (bodyPlaceZ r).1.to' = b ∨ (bodyPlaceZ r).1.from' = b ∧ (bodyPlaceZ r).1.to' = a) ∧ (firstWay (bodyPlaceZ r).1.from' (bodyPlaceZ r).1.to' r.body 0).isSome = true ∧ ((bodyPlaceZ r).1.head = a ∨ (bodyPlaceZ r).1.head = b))) := by
  rw [bodyPlaceZ] at h ⊢
  cases hany : r.body.any isAt with
  | false => rw [hany, if_neg (by decide)] at h; cases h
  | true =>
    rw [hany, if_pos rfl] at h
    rw [if_pos rfl]
    refine ⟨rfl, ?_⟩
    generalize placesL [] r.body = pl at *
    generalize hf : (fun a b => firstWay a b r.body 0) = f at *
    have hfe : ∀ a b, firstWay a b r.body 0 = f a b := fun a b => by rw [← hf]
    match pl, h with
    | [], h => simp [placeFrom] at h
    | [a], h =>
      rw [placeFrom] at h ⊢
      refine ⟨rfl, .inl ⟨rfl, rfl, ?_⟩⟩
      simp only at h ⊢
      rw [Bool.or_eq_true, eqS_iff] at h
      rw [hfe]
      exact h
    | [a, b], h =>
      rw [placeFrom] at h ⊢
      simp only [Bool.and_eq_true] at h
      obtain ⟨hb1, hb2⟩ := between_cases h.1
      refine ⟨rfl, .inr ⟨a, b, rfl, hb1, by rw [hfe]; exact hb2, ?_⟩⟩
      have := inB_iff.1 h.2
      simpa using this
    | a :: b :: c :: m, h => simp [placeFrom] at h
theorem from_in {r : Ru} (h : (bodyPlaceZ r).2 = true) : (bodyPlaceZ r).1.from' ∈ placesL [] r.body := by
 obtain ⟨-, -, h | ⟨a, b, h1, h2, -⟩⟩ := bodyPlace_ok h
 ·rw [h.1]; exact List.mem_singleton.2 rfl
 ·rw [h1]
  rcases h2 with h2 | h2
  ·rw [h2.1]; simp
  ·rw [h2.1]; simp
theorem placesL_some (p : ByteArray → Prop) : ∀ (l : List Li) (acc : List ByteArray), (∀ s ∈ acc, p s) → (∀ x ∈ l, hasPl x = true → p (name0 x.args)) → ∀ s ∈ placesL acc l, p s
 | [], acc, h, _ => h
 | x :: l, acc, h, hl => by
  rw [placesL]
  split
  ·rename_i hx
   refine placesL_some p l _ (fun s hs => ?_) (fun y hy => hl y (List.mem_cons_of_mem _ hy))
   rcases List.mem_append.1 hs with hs | hs
   ·exact h s hs
   ·rw [List.mem_singleton.1 hs]; exact hl x (List.mem_cons_self ..) hx.1
  ·exact placesL_some p l acc h (fun y hy => hl y (List.mem_cons_of_mem _ hy))
theorem ru_args {r : Ru} (h : ruB r = true) : (∀ t ∈ r.args, rightM 8 t = true) ∧ ∀ x ∈ r.body, ∀ t ∈ x.args, rightM 8 t = true := by
 rw [ruB] at h
 simp only [Bool.and_eq_true] at h
 obtain ⟨-, h1, -, h2⟩ := h
 have ha : ∀ {s : ByteArray} {l : List Tm}, atomB s l = true → ∀ t ∈ l, rightM 8 t = true := fun h => by
  rw [atomB] at h; simp only [Bool.and_eq_true] at h; exact (listB_bounds h.2.1).2.2
 refine ⟨ha h1, fun x hx => ?_⟩
 have hl := (listB_bounds h2).2.2 x hx
 rw [liB] at hl
 split at hl
 ·exact ha hl
 split at hl
 ·exact ha hl
 split at hl
 ·rw [Bool.and_eq_true] at hl; exact (listB_bounds hl.2).2.2
 split at hl
 ·rw [Bool.and_eq_true] at hl; exact (listB_bounds hl.2).2.2
 ·cases hl
theorem var_of {t : Tm} (h : rightM 8 t = true) (hk : t.kind = 1) : varB t.name = true := by
 cases t with
 | mk k s x l =>
  obtain rfl : k = 1 := hk
  rw [rightM, if_pos rfl] at h
  simp only [Bool.and_eq_true] at h
  exact h.1
theorem places_var {r : Ru} (h : ruB r = true) (hv : atVarsL r.body = true) : ∀ s ∈ placesL [] r.body, varB s = true := by
 refine placesL_some _ _ _ (fun _ h => by cases h) (fun x hx hp => ?_)
 have h1 := (ru_facts h).2.1 x hx hp
 rw [(kind0_at h1).2]
 refine var_of ((ru_args h).2 x hx _ (List.getElem_mem h1)) ?_
 rw [atVarsL, List.all_eq_true] at hv
 have := hv x hx
 rw [hp, (kind0_at h1).1] at this
 simpa using this
def moreRu (r : Ru) (x : Li) : Ru := { r with body := r.body ++ [x] }
theorem ruB_more {r : Ru} {x : Li} (h : ruB r = true) (hl : r.body.length < 8) (hx : liB x = true) : ruB (moreRu r x) = true := by
 rw [ruB] at h ⊢
 simp only [Bool.and_eq_true] at h ⊢
 obtain ⟨h1, h2, h3, h4⟩ := h
 obtain ⟨b1, b2, b3⟩ := listB_bounds h4
 refine ⟨h1, h2, h3, listB_of (by simp [moreRu]; omega) (by simp [moreRu]; omega) (fun y hy => ?_)⟩
 rcases List.mem_append.1 hy with hy | hy
 ·exact b3 y hy
 ·rw [List.mem_singleton.1 hy]; exact hx
theorem firstWay_more {l : List Li} {x : Li} (hx : isLk x = false) (a b : ByteArray) : firstWay a b (l ++ [x]) 0 = firstWay a b l 0 := by
 rw [firstWay_snoc, onWay_not hx]
 cases firstWay a b l 0 <;> rfl
theorem place_more {r : Ru} {x : Li} (h : (placeZ r).2 = true) (hl : r.body.length < 8) (hx : liB x = true) (hk : isLk x = false) (hat : isAt x = false ∨ (r.body.any isAt = true))
  (hpl : hasPl x = true → kind0 x.args = 1 ∧ inB (placesL [] r.body) (name0 x.args) = true) : placeZ (moreRu r x) = placeZ r := by
 obtain ⟨h1, h2, h3, h4, h5, h6, h7⟩ := placeZ_ok h
 have hb : bodyPlaceZ (moreRu r x) = bodyPlaceZ r := by
  refine bodyPlace_congr ?_ ?_ (fun a b => firstWay_more hk a b) rfl
  ·show (r.body ++ [x]).any isAt = _
   rw [List.any_append, List.any_cons, List.any_nil, Bool.or_false]
   rcases hat with e | e
   ·rw [e, Bool.or_false]
   ·rw [e, Bool.true_or]
  ·show placesL [] (r.body ++ [x]) = _
   rw [placesL_snoc, if_neg]
   rintro ⟨e1, e2⟩
   rw [(hpl e1).2] at e2; cases e2
 rw [h7, ← hb]
 refine placeZ_of (ruB_more h1 hl hx) h2 ?_ h4 (by rw [hb]; exact h5) (by rw [hb]; exact h6)
 show atVarsL (r.body ++ [x]) = true
 rw [atVarsL, List.all_append, List.all_cons, List.all_nil, Bool.and_true, Bool.and_eq_true]
 refine ⟨h3, ?_⟩
 cases hp : hasPl x with
 | false => rfl
 | true => simp [(hpl hp).1]
theorem place_other {r : Ru} {x : Li} (h : (placeZ r).2 = true) (hk : isLk x = false) (hp : hasPl x = true) (hn : inB (placesL [] r.body) (name0 x.args) = false)
  (hw : ∀ a, firstWay a (name0 x.args) r.body 0 = none ∧ firstWay (name0 x.args) a r.body 0 = none) : (placeZ (moreRu r x)).2 = false := by
 obtain ⟨-, -, -, -, h5, -, -⟩ := placeZ_ok h
 obtain ⟨hany, -, hc⟩ := bodyPlace_ok h5
 cases hz : (placeZ (moreRu r x)).2 with
 | false => rfl
 | true =>
  obtain ⟨-, -, -, -, g5, -, -⟩ := placeZ_ok hz
  have hpl : placesL [] (moreRu r x).body = placesL [] r.body ++ [name0 x.args] := by
   show placesL [] (r.body ++ [x]) = _
   rw [placesL_snoc, if_pos ⟨hp, hn⟩]
  obtain ⟨-, -, gc⟩ := bodyPlace_ok g5
  rw [hpl] at gc
  have hfw : ∀ a b, firstWay a b (moreRu r x).body 0 = firstWay a b r.body 0 := fun a b => firstWay_more hk a b
  rcases hc with ⟨e1, -⟩ | ⟨a, b, e1, -⟩
  ·rw [e1] at gc
   rcases gc with ⟨e2, -⟩ | ⟨a, b, e2, e3, e4, -⟩
   ·exact absurd (congrArg List.length e2) (by simp)
   ·obtain ⟨rfl, rfl⟩ : (bodyPlaceZ r).1.from' = a ∧ name0 x.args = b := by simpa using e2
    rw [hfw] at e4
    rcases e3 with ⟨e3, e5⟩ | ⟨e3, e5⟩
    ·rw [e3, e5, (hw _).1] at e4; cases e4
    ·rw [e3, e5, (hw _).2] at e4; cases e4
  ·rw [e1] at gc
   rcases gc with ⟨e2, -⟩ | ⟨a, b, e2, -⟩
   ·exact absurd (congrArg List.length e2) (by simp)
   ·exact absurd (congrArg List.length e2) (by simp)
def Short (t : Tm) : Prop := t.kind = 1 → t.name.size = 1
theorem short_v (c : Int) : Short (vZ c) := fun _ => rfl
theorem short_arg (c : Int) : Short (argZ c) := by
 rw [argZ]
 split
 ·intro h; exact absurd h (by simp [numZ, Tm.kind])
 split
 ·intro h; exact absurd h (by simp [adrZ, Tm.kind])
 split
 ·intro h; exact absurd h (by simp [sumZ, Tm.kind])
 ·exact short_v c
theorem short_atom (x : Rw) : ∀ t ∈ atomZ x, Short t := by
 intro t ht
 rw [atomZ, atomTo] at ht
 rcases List.mem_cons.1 ht with rfl | ht
 ·exact short_v _
 ·obtain ⟨i, -, rfl⟩ := List.mem_map.1 ht
  exact short_arg _
theorem short_lit (x : Rw) : ∀ t ∈ (litZ x).args, Short t := by
 rw [litZ]
 split
 ·exact short_atom x
 split
 ·exact short_atom x
 split
 ·intro t ht
  rcases List.mem_cons.1 ht with rfl | ht
  ·exact short_v _
  ·rw [List.mem_singleton.1 ht]
   split
   ·intro h; exact absurd h (by simp [numZ, Tm.kind])
   ·exact short_v _
 ·intro t ht
  rw [List.mem_singleton.1 ht]
  intro h; exact absurd h (by simp [sumZ, Tm.kind])
theorem short_body (l : List Rw) : ∀ x ∈ bodyZ l, ∀ t ∈ x.args, Short t := by
 intro x hx
 rw [bodyZ] at hx
 split at hx
 ·rw [List.mem_singleton.1 hx]; exact short_lit _
 ·obtain ⟨y, -, rfl⟩ := List.mem_map.1 hx
  exact short_lit y
theorem rule_body (l : List Rw) (n : Int) : (ruleZ l n).body = bodyZ l := by rw [ruleZ]; split <;> rfl
theorem short_none {body : List Li} (h : ∀ x ∈ body, ∀ t ∈ x.args, Short t) {s : ByteArray} (hs : s.size ≠ 1) (hv : atVarsL body = true) (ha : ∀ x ∈ body, hasPl x = true → 0 < x.args.length) :
  inB (placesL [] body) s = false ∧ ∀ a i, firstWay a s body i = none ∧ firstWay s a body i = none := by
 have key : ∀ x ∈ body, hasPl x = true → (name0 x.args).size = 1 := fun x hx hp => by
  have h1 := ha x hx hp
  rw [(kind0_at h1).2]
  refine h x hx _ (List.getElem_mem h1) ?_
  rw [atVarsL, List.all_eq_true] at hv
  have := hv x hx
  rw [hp, (kind0_at h1).1] at this
  simpa using this
 refine ⟨?_, fun a i => ?_⟩
 ·rw [Bool.eq_false_iff]
  intro hc
  have := placesL_some (fun s => s.size = 1) body [] (fun _ h => by cases h) key s (inB_iff.1 hc)
  exact hs this
 ·have hno : ∀ x ∈ body, onWay a s x = false ∧ onWay s a x = false := fun x hx => by
   cases hk : isLk x with
   | false => exact ⟨onWay_not hk _ _, onWay_not hk _ _⟩
   | true =>
    have hk2 := hk
    rw [isLk, isAt] at hk2
    simp only [Bool.and_eq_true, decide_eq_true_eq, beq_iff_eq] at hk2
    have hp : hasPl x = true := by rw [hasPl, hk2.1]; rfl
    have h1 := isLk_len hk
    have hn1 : (name0 (x.args.drop 1)).size = 1 := by
     rw [(kind1_at h1).2]
     refine h x hx _ (List.getElem_mem h1) ?_
     rw [← (kind1_at h1).1]; exact hk2.2.2.2
    constructor
    ·rw [onWay, Bool.and_eq_false_iff, Bool.and_eq_false_iff]
     right; right
     rw [Bool.eq_false_iff]
     intro e; rw [eqS_iff] at e; rw [e] at hn1; exact hs hn1
    ·rw [onWay, Bool.and_eq_false_iff, Bool.and_eq_false_iff]
     right; left
     rw [Bool.eq_false_iff]
     intro e; rw [eqS_iff] at e; have := key x hx hp; rw [e] at this; exact hs this
  have go : ∀ (l : List Li) (i : Nat), (∀ x ∈ l, onWay a s x = false ∧ onWay s a x = false) → firstWay a s l i = none ∧ firstWay s a l i = none := by
   intro l
   induction l with
   | nil => intro i _; exact ⟨rfl, rfl⟩
   | cons x l ih =>
    intro i hl
    obtain ⟨e1, e2⟩ := hl x (List.mem_cons_self ..)
    rw [firstWay, firstWay, e1, e2, if_neg (by decide), if_neg (by decide)]
    exact ih (i + 1) (fun y hy => hl y (List.mem_cons_of_mem _ hy))
  exact go body i hno
end Go.Proofs.YtjohcnhiblfbnaaGreatDoor
namespace Go.Proofs.YtjohcnhiblfbnaaGreatDoor
open Go.RowKit
end Go.Proofs.YtjohcnhiblfbnaaGreatDoor
namespace Go.Proofs.YtjohcnhiblfbnaaGreatDoor
open Go.ChangeShapes Go.WideShapes Go.ChangeAt Go.RowKit Go.Deep Go.Joins
theorem cellsInt : Tryz.prog.cellsOf 3 = 1 := by kernel_rfl
theorem i64_wf {n : Int} (h : (Lit.int .i64 n).wf = true) : I64 n := bounds_i64 h
section
variable {H : Type} {enc : TypeId × Value → H} {W : World}
theorem weightsAll_mem {P : Program} {e : TypeId} {ds : List (DataW H)} {d : DataW H} (h : d ∈ ds) (n : Nat) (hn : n ∈ d.weights P e) : n ∈ DataW.weightsAll P e ds := by
 induction ds with
 | nil => cases h
 | cons x r ih =>
  rw [DataW.weightsAll, List.mem_append]
  rcases List.mem_cons.1 h with rfl | h
  ·exact Or.inl hn
  ·exact Or.inr (ih h)
def Fits (P : Program) (t : TypeId) (d : DataW H) : Prop := ∀ n ∈ d.weights P t, n ≤ reachBytes
theorem cell_lt {w : World} {a : Addr} {v : Value} (h : w.cell? a = some v) : a.block < w.heap.size := by
 by_cases hlt : a.block < w.heap.size
 ·exact hlt
 ·have hn : w.heap[a.block]? = none := by simp; omega
  simp [World.cell?, hn] at h
theorem sizeOf_mem {D : Nat → DataW H} {len i : Nat} (h : i < len) {sp : List (DataW H)} : SizeOf.sizeOf (D i) < SizeOf.sizeOf (DataW.slice ((List.range len).map D) sp) := by
 have := List.sizeOf_lt_of_mem (List.mem_map_of_mem (f := D) (List.mem_range.2 h))
 simp only [DataW.slice.sizeOf_spec]
 omega
set_option maxRecDepth 100000 in
end
end Go.Proofs.YtjohcnhiblfbnaaGreatDoor
namespace Go.Proofs.YtjohcnhiblfbnaaGreatDoor
open Go.ChangeShapes Go.WideShapes Go.ChangeAt Go.RowKit
theorem own : ownKnob Tryz.prog.godebug = none := by kernel_rfl
theorem laidOut : laidOutB Tryz.prog = true := by kernel_rfl
section
variable {H : Type} {enc : TypeId × Value → H}
theorem trodAll_below {W W' : World} (hb : Below W.heap.size W W') : ∀ (ts : List TypeId) (vs : List Value) (ds : List (DataW H)) (ps : List MemPlace), DataW.TrodAll enc Tryz.prog W 0 (fun _ => true) true ts vs ds ps →
  (∀ t ∈ ts, Tryz.prog.readableRec t = true ∧ t < Tryz.prog.types.size) → (∀ x ∈ ps, x.block < W.heap.size) → DataW.TrodAll enc Tryz.prog W' 0 (fun b => decide (b < W.heap.size)) true ts vs ds ps
 | [], [], [], ps, h, _, _ => h
 | t :: ts, v :: vs, d :: ds, ps, h, ht, hp => by
  obtain ⟨p, q, h1, h2, rfl⟩ := h
  obtain ⟨r1, r2⟩ := ht t (by simp)
  exact ⟨p, q, Below.trod laidOut r1 r2 h1 hb (fun x hx => hp x (by simp [hx])), trodAll_below hb ts vs ds q h2 (fun t' h' => ht t' (by simp [h'])) (fun x hx => hp x (by simp [hx])), rfl⟩
 | [], _ :: _, _, _, h, _, _ => by cases h
 | _ :: _, [], _, _, h, _, _ => by cases h
 | [], [], _ :: _, _, h, _, _ => by cases h
 | _ :: _, _ :: _, [], _, h, _, _ => by cases h
theorem law_post {fn : Func} {s : ChangeSpec} {W W' : World} {args : Array Value} {ds gs : List (DataW H)} {before : List MemPlace}
  (hvars : s.vars = []) (hres : fn.resultTypes = #[4]) (hread : ∀ t ∈ fn.params.toList, Tryz.prog.readableRec t = true ∧ t < Tryz.prog.types.size)
  (hW : DataW.Whole enc Tryz.prog fn.params.toList s.vars false W args.toList ds gs before)
  (hs : s.fn H (ds ++ gs) = { results := [.lit (.bool true)], args := ds })
  (hb : Below W.heap.size W W') : s.post enc Tryz.prog fn false true false false W args (.bool true) W' := by
 have hW' := hW
 obtain ⟨p, q, hA, hV, rfl, hfz, hnd⟩ := hW
 rw [hvars] at hV
 obtain ⟨rfl, rfl⟩ := trodVars_none hV
 refine ⟨ds, [], p ++ [], [], p, [], hW', ?_, ?_, ?_, hb.frame _, fun h => by cases h⟩
 ·rw [hres, hs]
  exact trodAll_cons_mk (shut_bool Tryz.underlying4 _) trodAll_mk0
 ·rw [hs]
  exact trodAll_below hb _ _ _ _ hA hread (fun x hx => hW'.lt x (by simp [hx]))
 ·rw [hs, hvars]
  rfl
theorem fits_cons {t : TypeId} {ts : List TypeId} {d : DataW H} {ds : List (DataW H)} (h : (DataW.weightsEach Tryz.prog (t :: ts) (d :: ds)).all (· ≤ reachBytes) = true) :
  Fits Tryz.prog t d ∧ (DataW.weightsEach Tryz.prog ts ds).all (· ≤ reachBytes) = true := by
 rw [DataW.weightsEach, List.all_append, Bool.and_eq_true] at h
 exact ⟨fun n hn => by simpa using (List.all_eq_true.1 h.1) n hn, h.2⟩
end
end Go.Proofs.YtjohcnhiblfbnaaGreatDoor
namespace Go.Proofs.YtjohcnhiblfbnaaGreatDoor
open Go.ChangeShapes Go.WideShapes Go.ChangeAt Go.RowKit
theorem gTabType : (Tryz.prog.globals[0]?).map (·.type) = some 221 := by kernel_rfl
theorem cellsTab : Tryz.prog.cellsOf 221 = 20 := by kernel_rfl
theorem cellsU64 : Tryz.prog.cellsOf 214 = 1 := by kernel_rfl
theorem tab_of_laid {P : Program} {W : World} {name : String} {k : IntKind} {zs : List Int} {g : Nat} {t e : TypeId} {n : Nat}
  (hg : P.globalNamed name = some g) (hty : (P.globals[g]?).map (·.type) = some t) (ht : P.underlying t = some (.array n e)) (he : P.underlying e = some (.int k)) (hce : P.cellsOf e = 1) (hct : P.cellsOf t = n) :
  ∀ (laid : List (String × DataW Unit)) (ps : List MemPlace), DataW.LaidVars P W laid ps → (name, Lib.tabData k zs) ∈ laid → Lib.TabIs P W name k zs
 | [], _, _, hm => by cases hm
 | x :: rest, ps, h, hm => by
  obtain ⟨g', t', cs, fuel, p, q, hg', ht', hvar, hd, hq, _⟩ := h
  rcases List.mem_cons.1 hm with rfl | hm
  ·obtain rfl := Option.some.inj (hg.symm.trans hg')
   obtain rfl := Option.some.inj (hty.symm.trans ht')
   unfold Lib.TabIs
   rw [hvar, ← Lib.cells_of_tab ht he hce hct hd]
  ·exact tab_of_laid hg hty ht he hce hct rest q hq hm
theorem tabOk_of_laid {W : World} {laid : List (String × DataW Unit)} (h : laidMet Tryz.prog laid W) (hm : ("internal/strconv.uint64pow10", Rows.laid_internal_strconv_uint64pow10) ∈ laid) : TabOk W := by
 obtain ⟨ps, h1, _⟩ := h
 exact tab_of_laid gTab gTabType Tryz.underlying221 Tryz.underlying214 cellsU64 cellsTab laid ps h1 hm
theorem tab_lt {W : World} (h : TabOk W) : 0 < W.heap.size := by
 have := Lib.TabIs.cell h gTab 0 (by decide)
 exact cell_lt this
def setTab (w : World) (g : Nat) (cs : Array Value) : World :=
 { w with heap := w.heap.modify g fun
   | .cells _ t frozen => .cells cs t frozen
   | o => o }
noncomputable def laidWorld (os : Os) : World :=
 setTab (setTab (setTab (World.holding Tryz.prog os ⟨#[], #[], []⟩)
  0 #[.int .u64 1, .int .u64 10, .int .u64 100, .int .u64 1000, .int .u64 10000, .int .u64 100000, .int .u64 1000000, .int .u64 10000000, .int .u64 100000000, .int .u64 1000000000, .int .u64 10000000000, .int .u64 100000000000, .int .u64 1000000000000, .int .u64 10000000000000, .int .u64 100000000000000, .int .u64 1000000000000000, .int .u64 10000000000000000, .int .u64 100000000000000000, .int .u64 1000000000000000000, .int .u64 10000000000000000000])
  1 #[.int .u8 0, .int .u8 1, .int .u8 28, .int .u8 2, .int .u8 29, .int .u8 14, .int .u8 24, .int .u8 3, .int .u8 30, .int .u8 22, .int .u8 20, .int .u8 15, .int .u8 25, .int .u8 17, .int .u8 4, .int .u8 8, .int .u8 31, .int .u8 27, .int .u8 13, .int .u8 23, .int .u8 21, .int .u8 19, .int .u8 16, .int .u8 7, .int .u8 26, .int .u8 12, .int .u8 18, .int .u8 6, .int .u8 11, .int .u8 5, .int .u8 10, .int .u8 9])
  2 #[.int .u8 0, .int .u8 1, .int .u8 56, .int .u8 2, .int .u8 57, .int .u8 49, .int .u8 28, .int .u8 3, .int .u8 61, .int .u8 58, .int .u8 42, .int .u8 50, .int .u8 38, .int .u8 29, .int .u8 17, .int .u8 4, .int .u8 62, .int .u8 47, .int .u8 59, .int .u8 36, .int .u8 45, .int .u8 43, .int .u8 51, .int .u8 22, .int .u8 53, .int .u8 39, .int .u8 33, .int .u8 30, .int .u8 24, .int .u8 18, .int .u8 12, .int .u8 5, .int .u8 63, .int .u8 55, .int .u8 48, .int .u8 27, .int .u8 60, .int .u8 41, .int .u8 37, .int .u8 16, .int .u8 46, .int .u8 35, .int .u8 44, .int .u8 21, .int .u8 52, .int .u8 32, .int .u8 23, .int .u8 11, .int .u8 54, .int .u8 26, .int .u8 40, .int .u8 15, .int .u8 34, .int .u8 20, .int .u8 31, .int .u8 10, .int .u8 25, .int .u8 14, .int .u8 19, .int .u8 9, .int .u8 13, .int .u8 8, .int .u8 7, .int .u8 6]
end Go.Proofs.YtjohcnhiblfbnaaGreatDoor
namespace Go.Proofs.YtjohcnhiblfbnaaGreatDoor
open Go.RowKit
def SX (k B : Nat) (T : TypeId) (w : World) (b : Nat) : Prop := b < k ∨ (B ≤ b ∧ b < w.heap.size ∧ ∀ cs fz, w.heap[b]? ≠ some (.cells cs T fz))
theorem SX.on {k B b : Nat} {T : TypeId} {w w' : World} (hb : Below w.heap.size w w') (h : SX k B T w b) : SX k B T w' b := by
 rcases h with h | ⟨h1, h2, h3⟩
 ·exact .inl h
 ·exact .inr ⟨h1, Nat.lt_of_lt_of_le h2 hb.size, fun cs fz => by rw [hb.block b h2]; exact h3 cs fz⟩
theorem SX.lt {k B b : Nat} {T : TypeId} {w : World} (hk : k ≤ w.heap.size) (h : SX k B T w b) : b < w.heap.size := by
 rcases h with h | h
 ·exact Nat.lt_of_lt_of_le h hk
 ·exact h.2.1
theorem SX.keep {k B b : Nat} {T : TypeId} {w w' : World} (hk : k ≤ w.heap.size) (hb : Below w.heap.size w w') (h : SX k B T w b) : w'.heap[b]? = w.heap[b]? := hb.block b (h.lt hk)
theorem SX.off {k B q : Nat} {T : TypeId} {w w' : World} {cs : Array Value} {fz : Nat × Nat} (hq : w.heap[q]? = some (.cells cs T fz)) (hk : k ≤ q) (hw : ∀ j, j ≠ q → w'.heap[j]? = w.heap[j]?) (hs : w'.heap.size = w.heap.size) : (∀ b, SX k B T w b → SX k B T w' b) ∧ ∀ b, SX k B T w b → w'.heap[b]? = w.heap[b]? := by
 have hne : ∀ b, SX k B T w b → b ≠ q := by
  rintro b (h | ⟨-, -, h⟩) e
  ·omega
  ·rw [e] at h; exact h _ _ hq
 refine ⟨fun b hb => ?_, fun b hb => hw b (hne b hb)⟩
 have := hne b hb
 rcases hb with h | ⟨h1, h2, h3⟩
 ·exact .inl h
 ·exact .inr ⟨h1, by rw [hs]; exact h2, fun cs fz => by rw [hw b this]; exact h3 cs fz⟩
theorem SX.new {k B : Nat} {T T' : TypeId} {w : World} {cs : Array Value} (hB : B ≤ w.heap.size) (hT : T' ≠ T) : SX k B T (w.alloc (.cells cs T')) w.heap.size :=
 .inr ⟨hB, by simp, fun cs' fz h => by
  have := (alloc_new' w (.cells cs T')).symm.trans h
  simp only [Option.some.injEq, Obj.cells.injEq] at this
  exact hT this.2.1⟩
end Go.Proofs.YtjohcnhiblfbnaaGreatDoor
