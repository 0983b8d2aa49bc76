/-
  SixRight
-/
import Derived.Test.YtcmlojigcgihbaaGreatKO12
import Derived.Test.YtcmlojigcgihbaaGreatKO13
import Derived.Test.YtcmlojigcgihbaaGreatKO03
namespace Go.Proofs.YtcmlojigcgihbaaGreat
open Go.RowKit
theorem listB_of {α : Type} {least most : Int} {R : α → Bool} {l : List α} (h1 : least ≤ (l.length : Int)) (h2 : (l.length : Int) ≤ most) (h : ∀ x ∈ l, R x = true) : listB least most R l = true := by
 rw [listB_some h1 h2, List.all_eq_true]; exact h
theorem vName_var {i : Nat} (h : i < 6) : varB (vName i) = true := by
 match i, h with
 | 0, _ => decide
 | 1, _ => decide
 | 2, _ => decide
 | 3, _ => decide
 | 4, _ => decide
 | 5, _ => decide
theorem pick_nat (c : Int) {n : Int} (hn : 1 ≤ n) : ∃ i : Nat, pickZ c n = (i : Int) ∧ (pickZ c n).toNat = i ∧ (i : Int) < n := by
 have h := pickZ_bd c n hn;obtain ⟨i, hi⟩ := Int.eq_ofNat_of_zero_le h.1;exact ⟨i, hi, by rw [hi]; simp, by omega⟩
theorem noneZ : noneB zV = true := by simp [noneB, zV, V.kind, V.num, V.text, V.list, Lib.toList_data]
theorem right_v (d : Nat) (c : Int) : rightM (d + 1) (vZ c) = true := by
 obtain ⟨i, hi, hn, hb⟩ := pick_nat c (n := 6) (by omega);rw [vZ, hn, vTm, rightM, if_pos rfl, vName_var (by omega), noneZ];rfl
theorem right_num (d : Nat) {n : Int} (h0 : 0 ≤ n) (h : n ≤ 10) : rightM (d + 1) (numZ n) = true := by
 rw [numZ, rightM, if_neg (by decide), if_pos rfl];simp [valB, rightV, baseB, V.kind, V.text, Lib.toList_data]
 omega
theorem adr_name {i : Nat} (h : i < 4) : nameB (adrName i) = true ∧ fnB (adrName i) = false := by
 match i, h with
 | 0, _ => exact ⟨by decide, by simp [fnB, fnOf, fnArity, adrName, Lib.toList_data]⟩
 | 1, _ => exact ⟨by decide, by simp [fnB, fnOf, fnArity, adrName, Lib.toList_data]⟩
 | 2, _ => exact ⟨by decide, by simp [fnB, fnOf, fnArity, adrName, Lib.toList_data]⟩
 | 3, _ => exact ⟨by decide, by simp [fnB, fnOf, fnArity, adrName, Lib.toList_data]⟩
theorem right_adr (d i : Nat) (h : i < 4) : rightM (d + 1) (adrZ i) = true := by
 rw [adrZ, rightM, if_neg (by decide), if_pos rfl];obtain ⟨h1, h2⟩ := adr_name h;simp [valB, rightV, baseB, V.kind, V.text, Lib.toList_data, h1, h2]
theorem right_sum (d : Nat) {a b : Tm} {s : ByteArray} (ha : rightM d a = true) (hb : rightM d b = true) (hs : opB s = true) : rightM (d + 1) (sumZ a b s) = true := by
 rw [sumZ, rightM, if_neg (by decide), if_neg (by decide), if_neg (by decide), if_pos rfl, hs, listB_of (by simp) (by simp) (fun x hx => by
  rcases List.mem_cons.1 hx with rfl | hx
  ·exact ha
  ·rw [List.mem_singleton.1 hx]; exact hb), noneZ]
 rfl
theorem right_arg (c : Int) : rightM 8 (argZ c) = true := by
 rw [argZ]
 split
 ·have := pickZ_bd (c.tdiv 12) 4 (by omega)
  exact right_num 7 this.1 (by omega)
 ·split
  ·obtain ⟨i, hi, hn, hb⟩ := pick_nat (c.tdiv 12) (n := 3) (by omega)
   rw [hn]; exact right_adr 7 i (by omega)
  ·split
   ·exact right_sum 7 (right_v 6 _) (right_num 6 (by decide) (by decide)) (by simp [opB, Lib.toList_data])
   ·exact right_v 7 c
theorem rel6 {i : Nat} (h : i < 6) : relB (decl6 i).name = true := by
 match i, h with
 | 0, _ =>
  have h1 : nameB (decl6 0).name = true := by decide
  rw [relB, h1];simp [fnB, fnOf, fnArity, declB, decl6, decls6, Lib.toList_data]
 | 1, _ =>
  have h1 : nameB (decl6 1).name = true := by decide
  rw [relB, h1];simp [fnB, fnOf, fnArity, declB, decl6, decls6, Lib.toList_data]
 | 2, _ =>
  have h1 : nameB (decl6 2).name = true := by decide
  rw [relB, h1];simp [fnB, fnOf, fnArity, declB, decl6, decls6, Lib.toList_data]
 | 3, _ =>
  have h1 : nameB (decl6 3).name = true := by decide
  rw [relB, h1];simp [fnB, fnOf, fnArity, declB, decl6, decls6, Lib.toList_data]
 | 4, _ =>
  have h1 : nameB (decl6 4).name = true := by decide
  rw [relB, h1];simp [fnB, fnOf, fnArity, declB, decl6, decls6, Lib.toList_data]
 | 5, _ =>
  have h1 : nameB (decl6 5).name = true := by decide
  rw [relB, h1];simp [fnB, fnOf, fnArity, declB, decl6, decls6, Lib.toList_data]
theorem rel_of (x : Rw) : relB (declOf x).name = true := by
 obtain ⟨i, hi, hn, hb⟩ := pick_nat x.name (n := 6) (by omega);rw [declOf, hn]; exact rel6 (by omega)
theorem right_atom (x : Rw) : atomB (declOf x).name (atomZ x) = true := by
 have hl := atomZ_len x;have hh : headB (atomZ x) = true := by rw [atomZ, atomTo, headB]; rfl
 rw [atomB, rel_of, hh, listB_of (by rw [atomZ, atomTo, List.length_cons]; omega) (by omega) (fun y hy => by
  rw [atomZ, atomTo] at hy;rcases List.mem_cons.1 hy with rfl | hy
  ·exact right_v 7 _
  ·obtain ⟨i, -, rfl⟩ := List.mem_map.1 hy
   exact right_arg _)]
 rfl
theorem right_cmp {j : Nat} (h : j < 6) : cmpB (cmp6 j) = true := by
 match j, h with
 | 0, _ => simp [cmpB, cmp6, Lib.toList_data]
 | 1, _ => simp [cmpB, cmp6, Lib.toList_data]
 | 2, _ => simp [cmpB, cmp6, Lib.toList_data]
 | 3, _ => simp [cmpB, cmp6, Lib.toList_data]
 | 4, _ => simp [cmpB, cmp6, Lib.toList_data]
 | 5, _ => simp [cmpB, cmp6, Lib.toList_data]
theorem right_lit (x : Rw) : liB (litZ x) = true := by
 rw [litZ]
 split
 ·rw [liB, if_pos rfl]; exact right_atom x
 ·split
  ·show atomB _ _ = true; exact right_atom x
  ·split
   ·obtain ⟨j, hj, hn, hb⟩ := pick_nat x.name (n := 6) (by omega)
    have h4 := pickZ_bd x.n2 4 (by omega)
    show (cmpB (cmp6 (pickZ x.name 6).toNat) && listB 2 2 (rightM 8) _) = true
    rw [hn, right_cmp (by omega), listB_of (by simp) (by simp) (fun y hy => by
     rcases List.mem_cons.1 hy with rfl | hy
     ·exact right_v 7 _
     ·rw [List.mem_singleton.1 hy]
      split
      ·exact right_num 7 h4.1 (by omega)
      ·exact right_v 7 _)]
    rfl
   ·obtain ⟨i, hi, hn, hb⟩ := pick_nat x.n0 (n := 6) (by omega)
    show (varB (vName (pickZ x.n0 6).toNat) && listB 1 1 (rightM 8) _) = true
    rw [hn, vName_var (by omega), listB_of (by simp) (by simp) (fun y hy => by
     rw [List.mem_singleton.1 hy];refine right_sum 7 (right_v 6 _) ?_ ?_
     ·split
      ·exact right_num 6 (by decide) (by decide)
      ·exact right_v 6 _
     ·split
      ·simp [opB, Lib.toList_data]
      ·simp [opB, Lib.toList_data])]
    rfl
theorem right_label (n : Int) : relB (labelZ n) = true := by
 obtain ⟨r, hr, hn, hb⟩ := pick_nat n (n := 26) (by omega);have h1 : ∀ r : Nat, r < 26 → nameB ⟨#[114, UInt8.ofNat (97 + r)]⟩ = true := by decide
 rw [labelZ, hn, relB, h1 r (by omega)];simp [fnB, fnOf, fnArity, declB, Lib.toList_data]
theorem right_agg {g : Nat} (h : g < 3) : (agg6 g).toList.isEmpty = false ∧ aggNameB (agg6 g) = true := by
 match g, h with
 | 0, _ => simp [agg6, aggNameB, Lib.toList_data]
 | 1, _ => simp [agg6, aggNameB, Lib.toList_data]
 | 2, _ => simp [agg6, aggNameB, Lib.toList_data]
theorem right_body (l : List Rw) : listB 1 8 liB (bodyZ l) = true := by
 rw [bodyZ_eq];have h5 := bodyTo_len l 5
 split
 ·exact listB_of (by simp) (by simp) (fun y hy => by rw [List.mem_singleton.1 hy]; exact right_lit _)
 ·rename_i h
  have : 0 < (bodyTo l 5).length := List.length_pos_iff.2 h
  exact listB_of (by omega) (by omega) (fun y hy => by
   rw [bodyTo] at hy;obtain ⟨x, -, rfl⟩ := List.mem_map.1 hy
   exact right_lit _)
theorem right_rule (l : List Rw) (n : Int) : ruB (ruleZ l n) = true := by
 rw [ruleZ]
 split
 ·rename_i h
  rw [aggOn] at h;simp only [Bool.and_eq_true, decide_eq_true_eq, beq_iff_eq] at h
  obtain ⟨-, h1, h2⟩ := h;obtain ⟨g, hg, hn, hb⟩ := pick_nat ((headRw l).kind.tdiv 5) (n := 3) (by omega);obtain ⟨a1, a2⟩ := right_agg (show g < 3 by omega)
  have hk : kindAt (atomZ (headRw l)) 1 = 1 := by
   rw [List.getD, List.getElem?_eq_getElem h1] at h2;rw [kindAt, show (1 : Int).toNat = 1 from rfl, List.getElem?_eq_getElem h1]; exact h2
  rw [ruB, hn, right_label, right_atom, right_body, aggB, a1, if_neg (by decide), a2, hk, decide_eq_true (show (1 : Int) < ((atomZ (headRw l)).length : Int) by omega)];rfl
 ·rw [ruB, right_label, right_atom, right_body, aggB, if_pos (by simp [Lib.toList_data])]
  rfl
theorem right_factArg (x : Rw) (i : Nat) : rightV 4 (factArg x i) = true := by
 rw [factArg]
 split
 ·obtain ⟨g, hg, hn, hb⟩ := pick_nat ((numOf x i).tdiv 2) (n := 4) (by omega)
  obtain ⟨h1, h2⟩ := adr_name (show g < 4 by omega);rw [hn];simp [rightV, baseB, h1]
 ·have := pickZ_bd ((numOf x i).tdiv 2) 5 (by omega)
  simp [rightV, baseB, Lib.toList_data]
  omega
theorem declOf_nat (x : Rw) : ∃ m, (declOf x).arity.toNat = m + 1 ∧ m ≤ 2 := by
 have h := declOf_ok x;exact ⟨(declOf x).arity.toNat - 1, by omega, by omega⟩
theorem right_fact (x : Rw) : faB (factZ x) = true := by
 obtain ⟨m, hm, hm2⟩ := declOf_nat x
 have hh : headV (factZ x).args = true := by
  rw [factZ, hm, List.range_succ_eq_map];simp [headV, factArg, V.kind]
 rw [faB, hh, factZ, rel_of, hm, listB_of (by simp; omega) (by simp; omega) (fun y hy => by
  obtain ⟨i, -, rfl⟩ := List.mem_map.1 hy
  exact right_factArg x i)]
 rfl
theorem right_prog (rules : List (List Rw)) (facts : List Rw) : prB (progZ rules facts) = true := by
 have h1 : listB 0 64 deB decls6 = true := listB_of (by decide) (by decide) (fun y hy => by
  obtain ⟨i, hi, rfl⟩ := List.getElem_of_mem hy;have hi6 : i < 6 := hi
  show deB (decls6[i]'hi6) = true
  rw [← decl6_get hi6, deB, rel6 hi6];have := decl6_ok hi6
  simp; omega)
 rw [prB, progZ, h1, listB_of (by omega) (by rw [List.length_map, List.length_take]; omega) (fun y hy => by
  obtain ⟨x, -, rfl⟩ := List.mem_map.1 hy
  exact right_fact x), listB_of (by omega) (by rw [rulesTo, List.length_map, List.length_range]; omega) (fun y hy => by
  rw [rulesTo] at hy;obtain ⟨i, -, rfl⟩ := List.mem_map.1 hy
  exact right_rule _ _)]
 rfl
end Go.Proofs.YtcmlojigcgihbaaGreat
