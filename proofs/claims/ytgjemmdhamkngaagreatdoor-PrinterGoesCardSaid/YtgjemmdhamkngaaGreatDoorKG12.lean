/-
  ShowLines, GoesKit
-/
import Derived.Test.YtgjemmdhamkngaaGreatDoorK06
namespace Go.Proofs.YtgjemmdhamkngaaGreatDoor
def NoLf (l : List UInt8) : Prop := ∀ c ∈ l, c ≠ 10
theorem NoLf.nil : NoLf [] := fun c hc => by simp at hc
theorem NoLf.app {a b : List UInt8} (ha : NoLf a) (hb : NoLf b) : NoLf (a ++ b) := fun c hc => (List.mem_append.1 hc).elim (ha c) (hb c)
theorem NoLf.cons {c : UInt8} {l : List UInt8} (h : c ≠ 10) (hl : NoLf l) : NoLf (c :: l) := fun d hd => by
 rcases List.mem_cons.1 hd with rfl | hd
 ·exact h
 ·exact hl d hd
theorem lf_word {l : List UInt8} (h : ∀ c ∈ l, wordC c = true) : NoLf l := fun c hc e => by
 have := h c hc
 rw [e] at this; revert this; decide
theorem lf_dig {u : Nat} : NoLf (Lib.decDigits u) := lf_word fun c hc => dig_word c (decDigits_dig hc)
theorem lf_itoa (n : Int) : NoLf (Lib.itoa n) := by
 unfold Lib.itoa
 split
 ·exact NoLf.cons (by decide) lf_dig
 ·exact lf_dig
theorem lf_text {s : ByteArray} (h : textB s = true) : NoLf s.data.toList := fun c hc => by
 obtain ⟨i, hi, rfl⟩ := mem_at hc
 have h1 := (of_decide_eq_true h).2 i hi
 have h2 := of_decide_eq_true h1
 exact u8_ne (k := 10) (by omega) (by omega)
theorem lf_list : ∀ (l : List V) (first : Bool), (∀ x ∈ l, NoLf (prV x)) → NoLf (prL first l)
 | [], _, _ => by rw [prL]; exact NoLf.nil
 | x :: l, first, h => by
  rw [prL]
  refine NoLf.app (NoLf.app ?_ (h x (by simp))) (lf_list l false fun y hy => h y (by simp [hy]))
  split
  ·exact NoLf.nil
  ·exact NoLf.cons (by decide) NoLf.nil
theorem lf_val : ∀ (d : Nat) (x : V), rightV d x = true → NoLf (prV x)
 | d, .mk k n s l, h => by
  have h' := h
  rw [rightV_mk] at h'
  rcases baseB_cases h' with ⟨rfl, -⟩ | ⟨rfl, -, -, h1⟩ | ⟨rfl, -, -, h1⟩ | ⟨rfl, -, -, h2⟩
  ·have e : prV (.mk 1 n s l) = Lib.itoa n := by simp [prV]
   rw [e]; exact lf_itoa n
  ·have e : prV (.mk 2 n s l) = 34 :: (s.data.toList ++ [34]) := by simp [prV]
   rw [e]; exact NoLf.cons (by decide) (NoLf.app (lf_text h1) (NoLf.cons (by decide) NoLf.nil))
  ·have e : prV (.mk 3 n s l) = s.data.toList := by simp [prV]
   rw [e]; exact lf_word (name_word h1)
  ·have e : prV (.mk 4 n s l) = 91 :: (prL true l ++ [93]) := by simp [prV]
   rw [e]
   match d, h2 with
   | d + 1, h2 =>
    simp only [rightL, Bool.and_eq_true, decide_eq_true_eq, List.all_eq_true] at h2
    exact NoLf.cons (by decide) (NoLf.app (lf_list l true fun y hy => lf_val d y (h2.2 y hy)) (NoLf.cons (by decide) NoLf.nil))
theorem lf_print {x : V} (h : rightV 4 x = true) : NoLf (printB x) := by
 rw [printB, if_pos h]; exact lf_val 4 x h
theorem lf_sep {sep : List UInt8} (hs : NoLf sep) : ∀ {l : List (List UInt8)}, (∀ x ∈ l, NoLf x) → NoLf (sepL sep l)
 | [], _ => NoLf.nil
 | x :: l, h => by
  have key : ∀ m : List (List UInt8), (∀ y ∈ m, NoLf y) → NoLf ((m.map fun y => sep ++ y).flatten) := by
   intro m
   induction m with
   | nil => intro _; exact NoLf.nil
   | cons y m ih =>
    intro hm
    simp only [List.map_cons, List.flatten_cons]
    exact NoLf.app (NoLf.app hs (hm y (by simp))) (ih fun z hz => hm z (by simp [hz]))
  exact NoLf.app (h x (by simp)) (key l fun y hy => h y (by simp [hy]))
theorem lf_op {s : ByteArray} (h : opB s = true) : NoLf s.data.toList := by
 rcases opB_text h with e | e | e <;> rw [e] <;> exact NoLf.cons (by decide) NoLf.nil
theorem lf_cmp {s : ByteArray} (h : cmpB s = true) : NoLf s.data.toList := by
 rcases cmpB_text h with e | e | e | e | e | e <;> rw [e] <;> first | exact NoLf.cons (by decide) NoLf.nil | exact NoLf.cons (by decide) (NoLf.cons (by decide) NoLf.nil)
theorem lf_tm : ∀ (d : Nat) (x : Tm), rightM d x = true → NoLf (showM x)
 | 0, x, h => by rw [rightM_zero] at h; cases h
 | d + 1, .mk k s x l, h => by
  have sub : (∀ y ∈ l, rightM d y = true) → ∀ y ∈ l.map showM, NoLf y := fun g y hy => by
   obtain ⟨z, hz, rfl⟩ := List.mem_map.1 hy
   exact lf_tm d z (g z hz)
  rcases right_cases h with ⟨-, h1, -, -, e⟩ | ⟨-, -, h1, -, e⟩ | ⟨-, -, h1, -, h2, e⟩ | ⟨-, -, h1, -, h2, e⟩
  ·rw [e]; exact lf_word (var_word h1)
  ·rw [e]; exact lf_print (valB_right h1)
  ·rw [e]; exact NoLf.app (lf_word (fn_word h1)) (NoLf.cons (by decide) (NoLf.app (lf_sep (NoLf.cons (by decide) NoLf.nil) (sub h2)) (NoLf.cons (by decide) NoLf.nil)))
  ·rw [e]; exact NoLf.cons (by decide) (NoLf.app (lf_sep (lf_op h1) (sub h2)) (NoLf.cons (by decide) NoLf.nil))
theorem lf_tms {l : List Tm} (h : ∀ y ∈ l, rightM 8 y = true) : ∀ y ∈ l.map showM, NoLf y := fun y hy => by
 obtain ⟨z, hz, rfl⟩ := List.mem_map.1 hy
 exact lf_tm 8 z (h z hz)
theorem lf_atom {s : ByteArray} {l : List (List UInt8)} (hs : relB s = true) (h : ∀ y ∈ l, NoLf y) : NoLf (showAtom s l) :=
 NoLf.app (lf_word (rel_word hs)) (NoLf.cons (by decide) (NoLf.cons (by decide) (NoLf.app (lf_sep (NoLf.cons (by decide) NoLf.nil) h) (NoLf.cons (by decide) NoLf.nil))))
theorem lf_li {x : Li} (h : liB x = true) : NoLf (showLi x) := by
 rw [liB] at h
 rw [showLi]
 by_cases e1 : x.kind = 1
 ·rw [if_pos e1] at h ⊢
  rw [atomB] at h
  simp only [Bool.and_eq_true] at h
  exact lf_atom h.1 (lf_tms (listB_bounds h.2.1).2.2)
 rw [if_neg e1] at h ⊢
 by_cases e2 : x.kind = 2
 ·rw [if_pos e2] at h ⊢
  rw [atomB] at h
  simp only [Bool.and_eq_true] at h
  exact NoLf.cons (by decide) (lf_atom h.1 (lf_tms (listB_bounds h.2.1).2.2))
 rw [if_neg e2] at h ⊢
 by_cases e3 : x.kind = 3
 ·rw [if_pos e3] at h ⊢
  simp only [Bool.and_eq_true] at h
  exact lf_sep (NoLf.cons (by decide) (NoLf.app (lf_cmp h.1) (NoLf.cons (by decide) NoLf.nil))) (lf_tms (listB_bounds h.2).2.2)
 rw [if_neg e3] at h ⊢
 by_cases e4 : x.kind = 4
 ·rw [if_pos e4] at h ⊢
  simp only [Bool.and_eq_true] at h
  have h2 := lf_tms (listB_bounds h.2).2.2
  refine NoLf.app (lf_word (var_word h.1)) (NoLf.cons (by decide) (NoLf.cons (by decide) (NoLf.cons (by decide) (NoLf.cons (by decide) ?_))))
  cases hh : x.args.map showM with
  | nil => exact NoLf.nil
  | cons y m => exact h2 y (by rw [hh]; simp)
 ·rw [if_neg e4] at h; cases h
theorem lf_elem {x : ByteArray × Tm} (h : elemB x) : NoLf (showE x) := by
 obtain ⟨h1, h2⟩ := h
 rw [showE]
 split
 ·exact lf_tm 8 _ h1
 ·rename_i hne
  rcases h2 with e | h2
  ·rw [e] at hne; exact absurd no_text hne
  ·exact NoLf.app (lf_word (agg_word h2)) (NoLf.cons (by decide) (NoLf.app (lf_tm 8 _ h1) (NoLf.cons (by decide) NoLf.nil)))
theorem lf_ln {x : Ln} (h : lnB x = true) : NoLf (showLn x) := by
 cases x with
 | d x =>
  obtain ⟨h1, e⟩ := de_form h
  show NoLf (showDe x)
  rw [e]
  exact NoLf.app (lf_word mat_word) (NoLf.cons (by decide) (NoLf.app (lf_word (rel_word h1)) (NoLf.cons (by decide) (NoLf.app (lf_itoa _) (NoLf.cons (by decide) (NoLf.cons (by decide) NoLf.nil))))))
 | f x =>
  obtain ⟨h1, -, h2, e⟩ := fa_form h
  show NoLf (showFa x)
  rw [e]
  refine NoLf.app (lf_word (rel_word h1)) (NoLf.cons (by decide) (NoLf.cons (by decide) (NoLf.app (lf_sep (NoLf.cons (by decide) NoLf.nil) fun y hy => ?_) (NoLf.cons (by decide) (NoLf.cons (by decide) NoLf.nil)))))
  obtain ⟨z, hz, rfl⟩ := List.mem_map.1 hy
  exact lf_print (h2 z hz)
 | r x =>
  obtain ⟨h0, h1, -, -, h2, -, h3, e⟩ := ru_form h
  show NoLf (showRu x)
  rw [e]
  refine NoLf.app (lf_word (rel_word h0)) (NoLf.cons (by decide) (NoLf.app (lf_word (rel_word h1)) (NoLf.cons (by decide) (NoLf.cons (by decide) (NoLf.app (lf_sep (NoLf.cons (by decide) NoLf.nil) fun y hy => ?_)
   (NoLf.cons (by decide) (NoLf.cons (by decide) (NoLf.cons (by decide) (NoLf.cons (by decide) (NoLf.cons (by decide) (NoLf.app (lf_sep (NoLf.cons (by decide) (NoLf.cons (by decide) NoLf.nil)) fun y hy => ?_) (NoLf.cons (by decide) NoLf.nil))))))))))))
  ·obtain ⟨z, hz, rfl⟩ := List.mem_map.1 hy
   exact lf_elem (h2 z hz)
  ·obtain ⟨z, hz, rfl⟩ := List.mem_map.1 hy
   exact lf_li (h3 z hz)
theorem lf_count {l : List UInt8} (h : NoLf l) : l.count 10 = 0 := List.count_eq_zero.2 fun hc => h 10 hc rfl
theorem lines_count : ∀ (l : List (List UInt8)), (∀ x ∈ l, NoLf x) → (linesOf l).count 10 = l.length
 | [], _ => rfl
 | x :: l, h => by
  have e : linesOf (x :: l) = x ++ (10 :: linesOf l) := by simp [linesOf]
  rw [e, List.count_append, List.count_cons_self, lf_count (h x (by simp)), lines_count l fun y hy => h y (by simp [hy]), List.length_cons]
  omega
theorem pr_lines {x : Pr} (h : prB x = true) : (showPr x).count 10 = x.decls.length + x.facts.length + x.rules.length := by
 rw [showPr_lines, lines_count _ fun y hy => by
  obtain ⟨z, hz, rfl⟩ := List.mem_map.1 hy
  exact lf_ln (lines_right h z hz)]
 simp only [linesIn, List.length_map, List.length_append]
 omega
end Go.Proofs.YtgjemmdhamkngaaGreatDoor
namespace Go.Proofs.YtgjemmdhamkngaaGreatDoor
open Go.RowKit
def lfTo (t : ByteArray) (i : Nat) : Nat := (t.data.toList.take i).count 10
theorem lfTo_succ (t : ByteArray) (i : Nat) (h : i < t.size) : lfTo t (i + 1) = lfTo t i + (if t[i].toNat = 10 then 1 else 0) := by
 have h' : i < t.data.toList.length := by simpa using h
 have e : t.data.toList[i] = t[i] := by simp [ByteArray.getElem_eq_getElem_data]
 rw [lfTo, lfTo, List.take_succ_eq_append_getElem h', List.count_append, e]
 by_cases hc : t[i].toNat = 10
 ·have : t[i] = 10 := UInt8.toNat_inj.1 (by simpa using hc)
  rw [if_pos hc, this]; rfl
 ·have : t[i] ≠ 10 := fun e => hc (by rw [e]; rfl)
  rw [if_neg hc, List.count_singleton]
  simp [this]
theorem lfTo_le (t : ByteArray) (i : Nat) : lfTo t i ≤ i :=
 Nat.le_trans List.count_le_length (by rw [List.length_take]; omega)
theorem lfTo_all (t : ByteArray) : lfTo t t.size = t.data.toList.count 10 := by
 rw [lfTo, List.take_of_length_le (by simp)]
theorem lf_pr {x : Pr} (h : prB x = true) {t : ByteArray} (ht : (⟨(showPr x).toArray⟩ : ByteArray) = t) : ((lfTo t t.size : Nat) : Int) = (x.decls.length : Int) + (x.facts.length : Int) + (x.rules.length : Int) := by
 rw [lfTo_all, ← ht, List.toList_toArray, pr_lines h]
 omega
end Go.Proofs.YtgjemmdhamkngaaGreatDoor
