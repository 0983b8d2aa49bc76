/-
  PrSmall, StrPure, TermBoxM, TermBox
-/
import Derived.Test.YtjmnnjikmmglpaaGreatKF01
import Derived.Test.YtjmnnjikmmglpaaGreatKF02
namespace Go.Proofs.YtjmnnjikmmglpaaGreat
open Go.RowKit
set_option maxRecDepth 100000 in
theorem function_any (s : ByteArray) (w : World) : Calls Tryz.prog 127 #[.string s] w fun e w' => e = .returned (.bool (fnB s)) ∧ Below w.heap.size w w' := by
 have HF : Hid (decide (0 ≤ fnArity (fnOf s)) = fnB s) := rfl;go_enter Tryz.func127, Tryz.ntmps127
 go_wp2_with fail
 refine (arity_any s _).mono ?_;rintro e w1 ⟨rfl, hb⟩;go_wp2_with fail
 go_ret
 exact ⟨ret_bool HF.out, hb⟩
set_option maxRecDepth 100000 in
theorem relation_any (s : ByteArray) (w : World) (hs : s.size ≤ maxLen) : Calls Tryz.prog 98 #[.string s] w fun e w' => e = .returned (.bool (relB s)) ∧ Below w.heap.size w w' := by
 cases h1 : nameB s with
 | false =>
  have HF : Hid (relB s = false) := by show _ = _; simp [relB, h1]
  have H1 := Lib.hid h1; clear h1
  go_enter Tryz.func98, Tryz.ntmps98
  go_wp2_with fail
  refine (name_any s _ hs).mono ?_;rw [H1.out];rintro e w1 ⟨rfl, hb⟩;go_wp2_with fail
  go_ret
  exact ⟨ret_bool HF.out.symm, hb⟩
 | true =>
 cases h2 : fnB s with
 | true =>
  have HF : Hid (relB s = false) := by show _ = _; simp [relB, h1, h2]
  have H1 := Lib.hid h1; have H2 := Lib.hid h2; clear h1 h2
  go_enter Tryz.func98, Tryz.ntmps98
  go_wp2_with fail
  refine (name_any s _ hs).mono ?_;rw [H1.out];rintro e w1 ⟨rfl, hb⟩;go_wp2_with fail
  refine (function_any s _).mono ?_;rw [H2.out];rintro e w2 ⟨rfl, hb2⟩;go_wp2_with fail
  go_ret
  exact ⟨ret_bool HF.out.symm, Below.step hb hb2⟩
 | false =>
 cases h3 : declB s
 all_goals
  have HF := Lib.hid (show relB s = (!declB s) by simp [relB, h1, h2]);have HF' := HF.out;rw [h3] at HF';have HG := Lib.hid HF';have H1 := Lib.hid h1; have H2 := Lib.hid h2; unfold declB at h3; clear h1 h2 HF HF'
  go_enter Tryz.func98, Tryz.ntmps98
  go_wp2_with fail
  refine (name_any s _ hs).mono ?_;rw [H1.out];rintro e w1 ⟨rfl, hb⟩;go_wp2_with fail
  refine (function_any s _).mono ?_;rw [H2.out];rintro e w2 ⟨rfl, hb2⟩;go_wp2_with fail
  go_ret
  exact ⟨ret_bool HG.out.symm, Below.step hb hb2⟩
theorem isEmpty_len {α : Type} (l : List α) : l.isEmpty = ((l.length : Int) == 0) := by
 cases l with
 | nil => rfl
 | cons x l => symm; rw [beq_eq_false_iff_ne.2 (by simp; omega)]; rfl
set_option maxRecDepth 100000 in
theorem nothing_any (x : V) (S : Nat → Prop) (w : World) (c0 c1 c2 c3 : Value) (hx : RepG S w x c0 c1 c2 c3) : Calls Tryz.prog 184 #[.agg #[c0, c1, c2, c3]] w fun e w' => e = .returned (.bool (noneB x)) ∧ Below w.heap.size w w' := by
 obtain ⟨fa, fc, rfl, rfl, rfl, rfl⟩ := hx.form;clear hx
 cases h0 : (x.kind == 0) with
 | false =>
  have HF : Hid (noneB x = false) := by show _ = _; simp only [noneB, h0, Bool.false_and]
  go_enter Tryz.func184, Tryz.ntmps184
  go_wp2_with fail
  go_ret
  exact ⟨ret_bool HF.out.symm, below_alloc _ _⟩
 | true =>
 cases h1 : (x.num == 0) with
 | false =>
  have HF : Hid (noneB x = false) := by show _ = _; simp only [noneB, h0, h1, Bool.false_and, Bool.true_and]
  go_enter Tryz.func184, Tryz.ntmps184
  go_wp2_with fail
  go_ret
  exact ⟨ret_bool HF.out.symm, below_alloc _ _⟩
 | true =>
 cases h2 : (x.text.toList.isEmpty) with
 | false =>
  have HF : Hid (noneB x = false) := by show _ = _; simp only [noneB, h0, h1, h2, Bool.false_and, Bool.true_and]
  go_enter Tryz.func184, Tryz.ntmps184
  go_wp2_with fail
  go_ret
  exact ⟨ret_bool HF.out.symm, below_alloc _ _⟩
 | true =>
 have h3 := isEmpty_len x.list
 cases h4 : ((x.list.length : Int) == 0) with
 | false =>
  have HF : Hid (noneB x = false) := by show _ = _; simp only [noneB, h0, h1, h2, h3, h4, Bool.true_and]
  clear h3;go_enter Tryz.func184, Tryz.ntmps184
  go_wp2_with fail
  go_ret
  exact ⟨ret_bool HF.out.symm, below_alloc _ _⟩
 | true =>
  have HF : Hid (noneB x = true) := by show _ = _; simp only [noneB, h0, h1, h2, h3, h4, Bool.true_and]
  clear h3;go_enter Tryz.func184, Tryz.ntmps184
  go_wp2_with fail
  go_ret
  exact ⟨ret_bool HF.out.symm, below_alloc _ _⟩
set_option maxRecDepth 100000 in
theorem rightValue_any (x : V) (S : Nat → Prop) (w : World) (c0 c1 c2 c3 : Value) (hS : ∀ k, S k → k < w.heap.size) (hx : RepG S w x c0 c1 c2 c3) : Calls Tryz.prog 185 #[.agg #[c0, c1, c2, c3]] w fun e w' => e = .returned (.bool (valB x)) ∧ Below w.heap.size w w' := by
 have HX := Lib.hid hx;obtain ⟨fa, fc, rfl, rfl, rfl, rfl⟩ := hx.form;clear hx
 cases h0 : rightV 4 x with
 | false =>
  have HF : Hid (valB x = false) := by show _ = _; simp only [valB, h0, Bool.false_and]
  have HR := Lib.hid h0; clear h0
  go_enter Tryz.func185, Tryz.ntmps185
  go_wp2_with fail
  have x1 := boxed_new w (.int .i64 x.kind) (.int .i64 x.num) (.string x.text) (.slice fa x.list.length fc);have b1 := below_alloc w (.cells #[.int .i64 x.kind, .int .i64 x.num, .string x.text, .slice fa x.list.length fc] 66);generalize w.alloc (.cells #[.int .i64 x.kind, .int .i64 x.num, .string x.text, .slice fa x.list.length fc] 66) = w1 at *;refine (right_any x w1.heap.size w1 _ _ _ _ (Nat.le_refl _) (RepG.on (fun k hk => Nat.lt_of_lt_of_le (hS k hk) b1.size) (fun k hk => b1.block k (hS k hk)) x HX.out)).mono ?_;rw [HR.out];rintro e w2 ⟨rfl, hb2⟩;obtain ⟨q0, q1, q2, q3⟩ := (x1.on hb2).cells;go_wp2_with fail
  go_ret
  exact ⟨ret_bool HF.out.symm, Below.step b1 hb2⟩
 | true =>
 cases h1 : (x.kind == 3) with
 | false =>
  have HF : Hid (valB x = true) := by show _ = _; simp only [valB, h0, h1, Bool.false_and, Bool.true_and, Bool.not_false]
  have HR := Lib.hid h0; clear h0
  go_enter Tryz.func185, Tryz.ntmps185
  go_wp2_with fail
  have x1 := boxed_new w (.int .i64 x.kind) (.int .i64 x.num) (.string x.text) (.slice fa x.list.length fc);have b1 := below_alloc w (.cells #[.int .i64 x.kind, .int .i64 x.num, .string x.text, .slice fa x.list.length fc] 66);generalize w.alloc (.cells #[.int .i64 x.kind, .int .i64 x.num, .string x.text, .slice fa x.list.length fc] 66) = w1 at *;refine (right_any x w1.heap.size w1 _ _ _ _ (Nat.le_refl _) (RepG.on (fun k hk => Nat.lt_of_lt_of_le (hS k hk) b1.size) (fun k hk => b1.block k (hS k hk)) x HX.out)).mono ?_;rw [HR.out];rintro e w2 ⟨rfl, hb2⟩;obtain ⟨q0, q1, q2, q3⟩ := (x1.on hb2).cells;go_wp2_with fail
  go_ret
  exact ⟨ret_bool HF.out.symm, Below.step b1 hb2⟩
 | true =>
 cases h2 : fnB x.text
 all_goals
  have HF := Lib.hid (show valB x = (!fnB x.text) by simp only [valB, h0, h1, Bool.true_and]);have HF' := HF.out;rw [h2] at HF';have HG := Lib.hid HF';have H2 := Lib.hid h2;have HR := Lib.hid h0; clear h0 h2 HF HF'
  go_enter Tryz.func185, Tryz.ntmps185
  go_wp2_with fail
  have x1 := boxed_new w (.int .i64 x.kind) (.int .i64 x.num) (.string x.text) (.slice fa x.list.length fc);have b1 := below_alloc w (.cells #[.int .i64 x.kind, .int .i64 x.num, .string x.text, .slice fa x.list.length fc] 66);generalize w.alloc (.cells #[.int .i64 x.kind, .int .i64 x.num, .string x.text, .slice fa x.list.length fc] 66) = w1 at *;refine (right_any x w1.heap.size w1 _ _ _ _ (Nat.le_refl _) (RepG.on (fun k hk => Nat.lt_of_lt_of_le (hS k hk) b1.size) (fun k hk => b1.block k (hS k hk)) x HX.out)).mono ?_;rw [HR.out];rintro e w2 ⟨rfl, hb2⟩;obtain ⟨q0, q1, q2, q3⟩ := (x1.on hb2).cells;go_wp2_with fail
  refine (function_any x.text _).mono ?_;rw [H2.out];rintro e w3 ⟨rfl, hb3⟩;go_wp2_with fail
  go_ret
  exact ⟨ret_bool HG.out.symm, Below.step (Below.step b1 hb2) hb3⟩
set_option maxRecDepth 100000 in
theorem reckoning_any (s : ByteArray) (w : World) : Calls Tryz.prog 187 #[.string s] w fun e w' => e = .returned (.bool (opB s)) ∧ w = w' := by
 cases h0 : (s.toList == [43]) with
 | true =>
  have HF : Hid (opB s = true) := by show _ = _; simp [opB, h0]
  go_enter Tryz.func187, Tryz.ntmps187
  go_wp2_with fail
  go_ret
  exact ⟨ret_bool HF.out.symm, rfl⟩
 | false =>
 cases h1 : (s.toList == [45]) with
 | true =>
  have HF : Hid (opB s = true) := by show _ = _; simp [opB, h0, h1]
  go_enter Tryz.func187, Tryz.ntmps187
  go_wp2_with fail
  go_ret
  exact ⟨ret_bool HF.out.symm, rfl⟩
 | false =>
 cases h2 : (s.toList == [42]) with
 | true =>
  have HF : Hid (opB s = true) := by show _ = _; simp [opB, h0, h1, h2]
  go_enter Tryz.func187, Tryz.ntmps187
  go_wp2_with fail
  go_ret
  exact ⟨ret_bool HF.out.symm, rfl⟩
 | false =>
  have HF : Hid (opB s = false) := by show _ = _; simp only [opB, h0, h1, h2, Bool.false_or]
  go_enter Tryz.func187, Tryz.ntmps187
  go_wp2_with fail
  go_ret
  exact ⟨ret_bool HF.out.symm, rfl⟩
set_option maxRecDepth 100000 in
theorem comparing_any (s : ByteArray) (w : World) : Calls Tryz.prog 132 #[.string s] w fun e w' => e = .returned (.bool (cmpB s)) ∧ w = w' := by
 cases h0 : (s.toList == [61, 61]) with
 | true =>
  have HF : Hid (cmpB s = true) := by show _ = _; simp [cmpB, h0]
  go_enter Tryz.func132, Tryz.ntmps132
  go_wp2_with fail
  go_ret
  exact ⟨ret_bool HF.out.symm, rfl⟩
 | false =>
 cases h1 : (s.toList == [33, 61]) with
 | true =>
  have HF : Hid (cmpB s = true) := by show _ = _; simp [cmpB, h0, h1]
  go_enter Tryz.func132, Tryz.ntmps132
  go_wp2_with fail
  go_ret
  exact ⟨ret_bool HF.out.symm, rfl⟩
 | false =>
 cases h2 : (s.toList == [60]) with
 | true =>
  have HF : Hid (cmpB s = true) := by show _ = _; simp [cmpB, h0, h1, h2]
  go_enter Tryz.func132, Tryz.ntmps132
  go_wp2_with fail
  go_ret
  exact ⟨ret_bool HF.out.symm, rfl⟩
 | false =>
 cases h3 : (s.toList == [60, 61]) with
 | true =>
  have HF : Hid (cmpB s = true) := by show _ = _; simp [cmpB, h0, h1, h2, h3]
  go_enter Tryz.func132, Tryz.ntmps132
  go_wp2_with fail
  go_ret
  exact ⟨ret_bool HF.out.symm, rfl⟩
 | false =>
 cases h4 : (s.toList == [62]) with
 | true =>
  have HF : Hid (cmpB s = true) := by show _ = _; simp [cmpB, h0, h1, h2, h3, h4]
  go_enter Tryz.func132, Tryz.ntmps132
  go_wp2_with fail
  go_ret
  exact ⟨ret_bool HF.out.symm, rfl⟩
 | false =>
 cases h5 : (s.toList == [62, 61]) with
 | true =>
  have HF : Hid (cmpB s = true) := by show _ = _; simp [cmpB, h0, h1, h2, h3, h4, h5]
  go_enter Tryz.func132, Tryz.ntmps132
  go_wp2_with fail
  go_ret
  exact ⟨ret_bool HF.out.symm, rfl⟩
 | false =>
  have HF : Hid (cmpB s = false) := by show _ = _; simp only [cmpB, h0, h1, h2, h3, h4, h5, Bool.false_or]
  go_enter Tryz.func132, Tryz.ntmps132
  go_wp2_with fail
  go_ret
  exact ⟨ret_bool HF.out.symm, rfl⟩
set_option maxRecDepth 100000 in
theorem place_any (t : Tm) (S : Nat → Prop) (w : World) (c0 c1 c2 c3 c4 c5 c6 : Value) (ht : RepM S w t c0 c1 c2 c3 c4 c5 c6) : Calls Tryz.prog 131 #[.agg #[c0, c1, c2, c3, c4, c5, c6]] w fun e w' => e = .returned (.bool (placeB t)) ∧ Below w.heap.size w w' := by
 obtain ⟨fa, fc, ga, gc, rfl, rfl, rfl, rfl, rfl, rfl, rfl⟩ := ht.form;clear ht
 cases h0 : (t.kind == 1) with
 | true =>
  have HF : Hid (placeB t = true) := by show _ = _; simp only [placeB, h0, Bool.true_or]
  go_enter Tryz.func131, Tryz.ntmps131
  go_wp2_with fail
  go_ret
  exact ⟨ret_bool HF.out.symm, below_alloc _ _⟩
 | false =>
 cases h1 : (t.kind == 2) with
 | false =>
  have HF : Hid (placeB t = false) := by show _ = _; simp only [placeB, h0, h1, Bool.false_or, Bool.false_and]
  go_enter Tryz.func131, Tryz.ntmps131
  go_wp2_with fail
  go_ret
  exact ⟨ret_bool HF.out.symm, below_alloc _ _⟩
 | true =>
 cases h2 : (t.val.kind == 3) with
 | false =>
  have HF : Hid (placeB t = false) := by show _ = _; simp only [placeB, h0, h1, h2, Bool.false_or, Bool.and_false]
  go_enter Tryz.func131, Tryz.ntmps131
  go_wp2_with fail
  go_ret
  exact ⟨ret_bool HF.out.symm, below_alloc _ _⟩
 | true =>
  have HF : Hid (placeB t = true) := by show _ = _; simp only [placeB, h0, h1, h2, Bool.false_or, Bool.true_and]
  go_enter Tryz.func131, Tryz.ntmps131
  go_wp2_with fail
  go_ret
  exact ⟨ret_bool HF.out.symm, below_alloc _ _⟩
end Go.Proofs.YtjmnnjikmmglpaaGreat
namespace Go.Proofs.YtjmnnjikmmglpaaGreat
structure Stp where
 rel : Nat
 on : Nat
 rise : Nat
def Sol (l : List Stp) (f : Nat → Nat) : Prop := ∀ s ∈ l, f s.on + s.rise ≤ f s.rel
def Low (n : Nat) (l : List Stp) (f : Nat → Nat) : Prop := ∀ g, Sol l g → ∀ i < n, f i ≤ g i
def Inside (n : Nat) (l : List Stp) : Prop := ∀ s ∈ l, s.rel < n ∧ s.on < n ∧ s.rise ≤ 1
def LeastN (n : Nat) (l : List Stp) (f : Nat → Nat) : Prop := Sol l f ∧ Low n l f
theorem countP_more {p q : Nat → Bool} (hpq : ∀ j, p j = true → q j = true) : ∀ l : List Nat, l.countP p ≤ l.countP q
 | [] => Nat.le_refl _
 | a :: l => by
  have ih := countP_more hpq l;simp only [List.countP_cons]
  cases hp : p a with
  | false => simp only [Bool.false_eq_true, if_false]; omega
  | true => rw [hpq a hp]; simp only [if_true]; omega
theorem countP_less {p q : Nat → Bool} (hpq : ∀ j, p j = true → q j = true) : ∀ (l : List Nat) (j : Nat), j ∈ l → q j = true → p j = false → l.countP p + 1 ≤ l.countP q
 | [], j, h, _, _ => by cases h
 | a :: l, j, h, hq, hp => by
  simp only [List.countP_cons]
  by_cases ha : j = a
  ·subst ha
   have := countP_more hpq l;rw [hq, hp]; simp only [if_true, Bool.false_eq_true, if_false]; omega
  ·have hm : j ∈ l := by cases h with
    | head => exact absurd rfl ha
    | tail _ h => exact h
   have ih := countP_less hpq l j hm hq hp
   cases hpa : p a with
   | false => simp only [Bool.false_eq_true, if_false]; omega
   | true => rw [hpq a hpa]; simp only [if_true]; omega
theorem count_values (f : Nat → Nat) (n : Nat) : ∀ k, (∀ u < k, ∃ j < n, f j = u) → (List.range n).countP (fun j => decide (k ≤ f j)) + k ≤ n
 | 0, _ => by have h := List.countP_le_length (p := fun j => decide (0 ≤ f j)) (l := List.range n); rw [List.length_range] at h; omega
 | k + 1, h => by
  have ih := count_values f n k fun u hu => h u (by omega)
  obtain ⟨j, hj, hjk⟩ := h k (by omega);have := countP_less (p := fun j => decide (k + 1 ≤ f j)) (q := fun j => decide (k ≤ f j)) (fun j hj => by simp only [decide_eq_true_eq] at hj ⊢; omega) (List.range n) j (List.mem_range.2 hj) (by simp [hjk]) (by simp [hjk]);omega
theorem missing (f : Nat → Nat) (n i : Nat) (hi : i < n) (h : n ≤ f i) : ∃ u, u < n ∧ ∀ j < n, f j ≠ u := by
 by_cases hex : ∃ u, u < n ∧ ∀ j < n, f j ≠ u
 ·exact hex
 ·exfalso
  have hall : ∀ u < n, ∃ j < n, f j = u := by
   intro u hu
   by_cases h' : ∃ j, j < n ∧ f j = u
   ·exact h'
   ·exact absurd ⟨u, hu, fun j hj he => h' ⟨j, hj, he⟩⟩ hex
  have h1 := count_values f n n hall;have h2 := countP_less (p := fun _ => false) (q := fun j => decide (n ≤ f j)) (fun j hj => by simp at hj) (List.range n) i (List.mem_range.2 hi) (by simpa using h) rfl;omega
def total : Nat → (Nat → Nat) → Nat
 | 0, _ => 0
 | n + 1, f => total n f + f n
theorem total_le {f g : Nat → Nat} : ∀ n, (∀ i < n, g i ≤ f i) → total n g ≤ total n f
 | 0, _ => Nat.le_refl _
 | n + 1, h => by have := total_le n fun i hi => h i (by omega); have := h n (by omega); simp only [total]; omega
theorem total_lt {f g : Nat → Nat} : ∀ n, (∀ i < n, g i ≤ f i) → ∀ i < n, g i < f i → total n g < total n f
 | 0, _, i, hi, _ => by omega
 | n + 1, h, i, hi, hl => by
  simp only [total]
  have hn := h n (by omega)
  by_cases he : i = n
  ·subst he
   have := total_le i fun j hj => h j (by omega)
   omega
  ·have := total_lt n (fun j hj => h j (by omega)) i (by omega) hl
   omega
theorem total_bound {f : Nat → Nat} {b : Nat} : ∀ n, (∀ i < n, f i ≤ b) → total n f ≤ n * b
 | 0, _ => by simp [total]
 | n + 1, h => by have := total_bound n fun i hi => h i (by omega); have := h n (by omega); simp only [total, Nat.succ_mul]; omega
theorem compress {n : Nat} {l : List Stp} (hin : Inside n l) : ∀ (m : Nat) (f : Nat → Nat), total n f ≤ m → Sol l f → ∃ g, Sol l g ∧ (∀ i < n, g i < n) := by
 intro m
 induction m with
 | zero =>
  intro f hm hf
  by_cases h : ∃ i, i < n ∧ n ≤ f i
  ·obtain ⟨i, hi, hl⟩ := h
   have := total_lt (f := f) (g := fun _ => 0) n (fun _ _ => Nat.zero_le _) i hi (by show 0 < f i; omega);omega
  ·exact ⟨f, hf, fun i hi => by by_cases hl : n ≤ f i; exact absurd ⟨i, hi, hl⟩ h; omega⟩
 | succ m ih =>
  intro f hm hf
  by_cases h : ∃ i, i < n ∧ n ≤ f i
  ·obtain ⟨i, hi, hl⟩ := h
   obtain ⟨u, hu, hno⟩ := missing f n i hi hl;refine ih (fun j => if u < f j then f j - 1 else f j) ?_ ?_
   ·have := total_lt (f := f) (g := fun j => if u < f j then f j - 1 else f j) n (fun j _ => by split <;> omega) i hi (by rw [if_pos (by omega)]; omega)
    omega
   ·intro s hs
    have h1 := hf s hs;obtain ⟨h2, h3, h4⟩ := hin s hs;have h5 := hno s.on h3;have h6 := hno s.rel h2
    dsimp only
    split <;> split <;> omega
  ·exact ⟨f, hf, fun i hi => by by_cases hl : n ≤ f i; exact absurd ⟨i, hi, hl⟩ h; omega⟩
theorem Low.zero (n : Nat) (l : List Stp) : Low n l fun _ => 0 := fun _ _ _ _ => Nat.zero_le _
def putN (f : Nat → Nat) (r v : Nat) : Nat → Nat := fun i => if i = r then v else f i
theorem Low.step {n : Nat} {l : List Stp} {f : Nat → Nat} (h : Low n l f) (hin : Inside n l) {s : Stp} (hs : s ∈ l) : Low n l (putN f s.rel (f s.on + s.rise)) := by
 intro g hg i hi;have h1 := hg s hs;have h2 := h g hg s.on (hin s hs).2.1;have h3 := h g hg i hi;rw [putN]
 by_cases he : i = s.rel
 ·rw [if_pos he, he]; omega
 ·rw [if_neg he]; exact h3
theorem Low.none {n : Nat} {l : List Stp} {f : Nat → Nat} (h : Low n l f) (hin : Inside n l) {s : Stp} (hs : s ∈ l) (hn : n ≤ f s.on + s.rise) : ¬ ∃ g, Sol l g := by
 rintro ⟨g, hg⟩;obtain ⟨g', h1, h2⟩ := compress hin _ g (Nat.le_refl _) hg;have h3 := h g' h1 s.on (hin s hs).2.1;have h4 := h1 s hs;have h5 := h2 s.rel (hin s hs).1;omega
theorem put_total {n : Nat} {f : Nat → Nat} {r v : Nat} (hr : r < n) (h : f r < v) : total n f < total n (putN f r v) := by
 refine total_lt n (fun i _ => ?_) r hr ?_
 ·rw [putN]; split
  ·next h' => rw [h']; omega
  ·exact Nat.le_refl _
 ·rw [putN, if_pos rfl]; exact h
theorem LeastN.same {n : Nat} {l m : List Stp} (h : ∀ s, s ∈ l ↔ s ∈ m) {f g : Nat → Nat} (hf : LeastN n l f) (hg : LeastN n m g) (i : Nat) (hi : i < n) : f i = g i :=
 Nat.le_antisymm (hf.2 g (fun s hs => hg.1 s ((h s).1 hs)) i hi) (hg.2 f (fun s hs => hf.1 s ((h s).2 hs)) i hi)
def Way (l : List Stp) : Nat → Nat → Nat → Prop
 | 0, i, j => ∃ s ∈ l, s.rel = i ∧ s.on = j
 | k + 1, i, j => Way l k i j ∨ (Way l k i k ∧ Way l k k j)
theorem Way.more {l : List Stp} {i j : Nat} : ∀ {k m : Nat}, k ≤ m → Way l k i j → Way l m i j := by
 intro k m h
 induction h with
 | refl => exact id
 | step _ ih => exact fun hw => Or.inl (ih hw)
theorem Way.trans {l : List Stp} : ∀ {m k i j : Nat}, k < m → Way l m i k → Way l m k j → Way l m i j
 | 0, _, _, _, h, _, _ => absurd h (Nat.not_lt_zero _)
 | m + 1, k, i, j, h, h1, h2 => by
  by_cases hk : k = m
  ·subst hk
   have a : Way l k i k := h1.elim id fun h => h.1
   have b : Way l k k j := h2.elim id fun h => h.2
   exact Or.inr ⟨a, b⟩
  ·have hl : k < m := by omega
   rcases h1 with h1 | ⟨h1, h1'⟩
   ·rcases h2 with h2 | ⟨h2, h2'⟩
    ·exact Or.inl (Way.trans hl h1 h2)
    ·exact Or.inr ⟨Way.trans hl h1 h2, h2'⟩
   ·rcases h2 with h2 | ⟨h2, h2'⟩
    ·exact Or.inr ⟨h1, Way.trans hl h1' h2⟩
    ·exact Or.inr ⟨h1, h2'⟩
theorem Way.sol {l : List Stp} {f : Nat → Nat} (hf : Sol l f) : ∀ {k i j : Nat}, Way l k i j → f j ≤ f i
 | 0, i, j, ⟨s, hs, h1, h2⟩ => by have := hf s hs; rw [h1, h2] at this; omega
 | k + 1, i, j, h => by
  rcases h with h | ⟨h1, h2⟩
  ·exact Way.sol hf h
  ·exact Nat.le_trans (Way.sol hf h2) (Way.sol hf h1)
def Firm (l : List Stp) (n i j : Nat) : Prop := ∃ s ∈ l, s.rise = 1 ∧ (i = s.rel ∨ Way l n i s.rel) ∧ (s.on = j ∨ Way l n s.on j)
theorem Firm.sol {l : List Stp} {f : Nat → Nat} (hf : Sol l f) {n i j : Nat} : Firm l n i j → f j + 1 ≤ f i := by
 rintro ⟨s, hs, hr, h1, h2⟩;have h3 := hf s hs;have h4 : f s.rel ≤ f i := h1.elim (fun h => by rw [h]; exact Nat.le_refl _) fun h => Way.sol hf h
 have h5 : f j ≤ f s.on := h2.elim (fun h => by rw [h]; exact Nat.le_refl _) fun h => Way.sol hf h
 omega
theorem Firm.behind {l : List Stp} {n i k j : Nat} (hk : k < n) (h : Way l n i k) : Firm l n k j → Firm l n i j := by
 rintro ⟨s, hs, hr, h1, h2⟩;refine ⟨s, hs, hr, Or.inr ?_, h2⟩;rcases h1 with h1 | h1
 ·rw [← h1]; exact h
 ·exact Way.trans hk h h1
theorem step_way {l : List Stp} {s : Stp} (hs : s ∈ l) (n : Nat) : Way l n s.rel s.on := Way.more (Nat.zero_le _) ⟨s, hs, rfl, rfl⟩
theorem sol_of_no_round {n : Nat} {l : List Stp} (hin : Inside n l) (h : ∀ i < n, ¬ Firm l n i i) : ∃ f, Sol l f := by
 have hdec : ∀ i j, Decidable (Firm l n i j) := fun _ _ => Classical.propDecidable _
 refine ⟨fun i => (List.range n).countP fun j => decide (Firm l n i j), fun s hs => ?_⟩;obtain ⟨h1, h2, h3⟩ := hin s hs;have hw := step_way hs n
 have hmono : ∀ j, decide (Firm l n s.on j) = true → decide (Firm l n s.rel j) = true := fun j hj => by
  simp only [decide_eq_true_eq] at hj ⊢
  exact Firm.behind h2 hw hj
 by_cases hr : s.rise = 1
 ·have := countP_less hmono (List.range n) s.on (List.mem_range.2 h2) (by simp only [decide_eq_true_eq]; exact ⟨s, hs, hr, Or.inl rfl, Or.inl rfl⟩) (by simpa using h _ h2)
  dsimp only
  omega
 ·have := countP_more hmono (List.range n)
  dsimp only
  omega
structure Tabs (l : List Stp) (n : Nat) (A S : Nat → Nat → Bool) : Prop where
 any : ∀ i < n, ∀ j < n, A i j = true → Way l n i j
 firm : ∀ i < n, ∀ j < n, S i j = true → Firm l n i j
 has : ∀ s ∈ l, A s.rel s.on = true
 hasF : ∀ s ∈ l, s.rise = 1 → S s.rel s.on = true
structure RndA (n k : Nat) (A S A' S' : Nat → Nat → Bool) : Prop where
 keepA : ∀ i < n, ∀ j < n, A i j = true → A' i j = true
 keepS : ∀ i < n, ∀ j < n, S i j = true → S' i j = true
 any : ∀ i < n, ∀ j < n, A i k = true → A k j = true → A' i j = true
 firm : ∀ i < n, ∀ j < n, A i k = true → A k j = true → S i k = true ∨ S k j = true → S' i j = true
structure PassA (l : List Stp) (n k : Nat) (A S : Nat → Nat → Bool) : Prop extends Tabs l n A S where
 way : ∀ i < n, ∀ j < n, Way l k i j → A i j = true
 loop : ∀ s ∈ l, s.rise = 1 → s.rel = s.on → s.rel < k → ∀ i < n, Way l k i s.rel → S i s.rel = true
theorem PassA.next {l : List Stp} {n k : Nat} {A S A' S' : Nat → Nat → Bool} (hin : Inside n l) (hk : k < n) (h : PassA l n k A S) (r : RndA n k A S A' S') (ht : Tabs l n A' S') : PassA l n (k + 1) A' S' := by
 refine ⟨ht, ?_, ?_⟩
 ·rintro i hi j hj (hw | ⟨h1, h2⟩)
  ·exact r.keepA i hi j hj (h.way i hi j hj hw)
  ·exact r.any i hi j hj (h.way i hi k hk h1) (h.way k hk j hj h2)
 ·intro s hs hr he hl i hi hw
  obtain ⟨a1, a2, a3⟩ := hin s hs
  by_cases hc : s.rel = k
  ·have hw' : Way l k i s.rel := hw.elim id fun h => by rw [hc]; exact h.1
   have b1 := h.way i hi s.rel a1 hw';have b2 := h.has s hs;have b3 := h.hasF s hs hr;rw [← he] at b2 b3;rw [hc] at b1 b2 b3 ⊢;exact r.firm i hi k hk b1 b2 (Or.inr b3)
  ·have hlk : s.rel < k := by omega
   rcases hw with hw | ⟨h1, h2⟩
   ·exact r.keepS i hi s.rel a1 (h.loop s hs hr he hlk i hi hw)
   ·exact r.firm i hi s.rel a1 (h.way i hi k hk h1) (h.way k hk s.rel a1 h2) (Or.inr (h.loop s hs hr he hlk k hk h2))
structure RndS (n k : Nat) (A S S' : Nat → Nat → Bool) : Prop where
 keep : ∀ i < n, ∀ j < n, S i j = true → S' i j = true
 firm : ∀ i < n, ∀ j < n, A i k = true → A k j = true → S i k = true ∨ S k j = true → S' i j = true
structure PassS (l : List Stp) (n k : Nat) (A S : Nat → Nat → Bool) : Prop extends Tabs l n A S where
 way : ∀ i < n, ∀ j < n, Way l n i j → A i j = true
 loop : ∀ s ∈ l, s.rise = 1 → s.rel = s.on → ∀ i < n, Way l n i s.rel → S i s.rel = true
 front : ∀ s ∈ l, s.rise = 1 → s.rel < k → ∀ i < n, Way l n i s.rel → S i s.on = true
 back : ∀ s ∈ l, s.rise = 1 → s.on < k → ∀ j < n, Way l n s.on j → S s.rel j = true
 both : ∀ s ∈ l, s.rise = 1 → s.rel < k → s.on < k → ∀ i < n, ∀ j < n, Way l n i s.rel → Way l n s.on j → S i j = true
theorem PassA.pass {l : List Stp} {n : Nat} {A S : Nat → Nat → Bool} (hin : Inside n l) (h : PassA l n n A S) : PassS l n 0 A S :=
 ⟨h.toTabs, h.way, fun s hs hr he i hi hw => h.loop s hs hr he (hin s hs).1 i hi hw, fun _ _ _ hl => absurd hl (Nat.not_lt_zero _), fun _ _ _ hl => absurd hl (Nat.not_lt_zero _), fun _ _ _ hl => absurd hl (Nat.not_lt_zero _)⟩
theorem PassS.next {l : List Stp} {n k : Nat} {A S S' : Nat → Nat → Bool} (hin : Inside n l) (h : PassS l n k A S) (r : RndS n k A S S') (ht : Tabs l n A S') : PassS l n (k + 1) A S' := by
 have hfront : ∀ s ∈ l, s.rise = 1 → s.rel < k + 1 → ∀ i < n, Way l n i s.rel → S' i s.on = true := by
  intro s hs hr hl i hi hw;obtain ⟨a1, a2, -⟩ := hin s hs
  by_cases hc : s.rel = k
  ·have b1 := h.way i hi _ a1 hw
   have b2 := h.has s hs;have b3 := h.hasF s hs hr;rw [hc] at b1 b2 b3;exact r.firm i hi _ a2 b1 b2 (Or.inr b3)
  ·exact r.keep i hi _ a2 (h.front s hs hr (by omega) i hi hw)
 have hback : ∀ s ∈ l, s.rise = 1 → s.on < k + 1 → ∀ j < n, Way l n s.on j → S' s.rel j = true := by
  intro s hs hr hl j hj hw;obtain ⟨a1, a2, -⟩ := hin s hs
  by_cases hc : s.on = k
  ·have b1 := h.way _ a2 j hj hw
   have b2 := h.has s hs;have b3 := h.hasF s hs hr;rw [hc] at b1 b2 b3;exact r.firm _ a1 j hj b2 b1 (Or.inl b3)
  ·exact r.keep _ a1 j hj (h.back s hs hr (by omega) j hj hw)
 refine ⟨ht, h.way, fun s hs hr he i hi hw => r.keep i hi _ (hin s hs).1 (h.loop s hs hr he i hi hw), hfront, hback, ?_⟩;intro s hs hr h1 h2 i hi j hj w1 w2;obtain ⟨a1, a2, -⟩ := hin s hs;have hst := step_way hs n
 by_cases hu : s.rel = k
 ·by_cases hv : s.on = k
  ·-- a strict step to itself
   have b1 := h.way i hi _ a1 w1;have b2 := h.way _ a2 j hj w2;have b3 := h.loop s hs hr (by rw [hu, hv]) i hi w1;rw [hu] at b1 b3; rw [hv] at b2
   exact r.firm i hi j hj b1 b2 (Or.inl b3)
  ·have b1 := h.way i hi _ a1 w1
   have b2 := h.way _ a1 j hj (Way.trans a2 hst w2);have b3 := h.back s hs hr (by omega) j hj w2;rw [hu] at b1 b2 b3;exact r.firm i hi j hj b1 b2 (Or.inr b3)
 ·by_cases hv : s.on = k
  ·have b1 := h.way i hi _ a2 (Way.trans a1 w1 hst)
   have b2 := h.way _ a2 j hj w2;have b3 := h.front s hs hr (by omega) i hi w1;rw [hv] at b1 b2 b3;exact r.firm i hi j hj b1 b2 (Or.inl b3)
  ·exact r.keep i hi j hj (h.both s hs hr (by omega) (by omega) i hi j hj w1 w2)
theorem PassS.whole {l : List Stp} {n : Nat} {A S : Nat → Nat → Bool} (hin : Inside n l) (h : PassS l n n A S) : ∀ i < n, ∀ j < n, (S i j = true ↔ Firm l n i j) := by
 refine fun i hi j hj => ⟨h.firm i hi j hj, ?_⟩
 rintro ⟨s, hs, hr, h1, h2⟩;obtain ⟨a1, a2, -⟩ := hin s hs;rcases h1 with h1 | h1
 ·rw [h1]
  rcases h2 with h2 | h2
  ·rw [← h2]; exact h.hasF s hs hr
  ·exact h.back s hs hr a2 j hj h2
 ·rcases h2 with h2 | h2
  ·rw [← h2]; exact h.front s hs hr a1 i hi h1
  ·exact h.both s hs hr a1 a2 i hi j hj h1 h2
end Go.Proofs.YtjmnnjikmmglpaaGreat
namespace Go.Proofs.YtjmnnjikmmglpaaGreat
open Go.RowKit
def BoxM (w : World) (k : Nat) (c0 c1 c2 c3 c4 c5 c6 : Value) : Prop := w.heap[k]? = some (.cells #[c0, c1, c2, c3, c4, c5, c6] 68 (0, 0))
theorem BoxM.cells {w : World} {k : Nat} {c0 c1 c2 c3 c4 c5 c6 : Value} (h : BoxM w k c0 c1 c2 c3 c4 c5 c6) : w.cell? ⟨k, 0, none⟩ = some c0 ∧ w.cell? ⟨k, 1, none⟩ = some c1 ∧ w.cell? ⟨k, 2, none⟩ = some c2 ∧ w.cell? ⟨k, 3, none⟩ = some c3 ∧ w.cell? ⟨k, 4, none⟩ = some c4 ∧ w.cell? ⟨k, 5, none⟩ = some c5 ∧ w.cell? ⟨k, 6, none⟩ = some c6 :=
 ⟨cell_of_block' h _ rfl, cell_of_block' h _ rfl, cell_of_block' h _ rfl, cell_of_block' h _ rfl, cell_of_block' h _ rfl, cell_of_block' h _ rfl, cell_of_block' h _ rfl⟩
theorem BoxM.lt {w : World} {k : Nat} {c0 c1 c2 c3 c4 c5 c6 : Value} (h : BoxM w k c0 c1 c2 c3 c4 c5 c6) : k < w.heap.size := (Array.getElem?_eq_some_iff.1 h).1
theorem BoxM.on {w w' : World} {k : Nat} {c0 c1 c2 c3 c4 c5 c6 : Value} (h : BoxM w k c0 c1 c2 c3 c4 c5 c6) (hb : Below w.heap.size w w') : BoxM w' k c0 c1 c2 c3 c4 c5 c6 := (hb.block k h.lt).trans h
theorem boxM_new (w : World) (c0 c1 c2 c3 c4 c5 c6 : Value) : BoxM (w.alloc (.cells #[c0, c1, c2, c3, c4, c5, c6] 68)) w.heap.size c0 c1 c2 c3 c4 c5 c6 := alloc_new' _ _
end Go.Proofs.YtjmnnjikmmglpaaGreat
namespace Go.Proofs.YtjmnnjikmmglpaaGreat
open Go.RowKit
def BoxLi (w : World) (k : Nat) (c0 c1 c2 : Value) : Prop := w.heap[k]? = some (.cells #[c0, c1, c2] 60 (0, 0))
theorem BoxLi.cells {w : World} {k : Nat} {c0 c1 c2 : Value} (h : BoxLi w k c0 c1 c2) : w.cell? ⟨k, 0, none⟩ = some c0 ∧ w.cell? ⟨k, 1, none⟩ = some c1 ∧ w.cell? ⟨k, 2, none⟩ = some c2 :=
 ⟨cell_of_block' h _ rfl, cell_of_block' h _ rfl, cell_of_block' h _ rfl⟩
theorem BoxLi.lt {w : World} {k : Nat} {c0 c1 c2 : Value} (h : BoxLi w k c0 c1 c2) : k < w.heap.size := (Array.getElem?_eq_some_iff.1 h).1
theorem BoxLi.on {w w' : World} {k : Nat} {c0 c1 c2 : Value} (h : BoxLi w k c0 c1 c2) (hb : Below w.heap.size w w') : BoxLi w' k c0 c1 c2 := (hb.block k h.lt).trans h
theorem boxLi_new (w : World) (c0 c1 c2 : Value) : BoxLi (w.alloc (.cells #[c0, c1, c2] 60)) w.heap.size c0 c1 c2 := alloc_new' _ _
def BoxRu (w : World) (k : Nat) (c0 c1 c2 c3 c4 c5 : Value) : Prop := w.heap[k]? = some (.cells #[c0, c1, c2, c3, c4, c5] 47 (0, 0))
theorem BoxRu.cells {w : World} {k : Nat} {c0 c1 c2 c3 c4 c5 : Value} (h : BoxRu w k c0 c1 c2 c3 c4 c5) : w.cell? ⟨k, 0, none⟩ = some c0 ∧ w.cell? ⟨k, 1, none⟩ = some c1 ∧ w.cell? ⟨k, 2, none⟩ = some c2 ∧ w.cell? ⟨k, 3, none⟩ = some c3 ∧ w.cell? ⟨k, 4, none⟩ = some c4 ∧ w.cell? ⟨k, 5, none⟩ = some c5 :=
 ⟨cell_of_block' h _ rfl, cell_of_block' h _ rfl, cell_of_block' h _ rfl, cell_of_block' h _ rfl, cell_of_block' h _ rfl, cell_of_block' h _ rfl⟩
theorem BoxRu.lt {w : World} {k : Nat} {c0 c1 c2 c3 c4 c5 : Value} (h : BoxRu w k c0 c1 c2 c3 c4 c5) : k < w.heap.size := (Array.getElem?_eq_some_iff.1 h).1
theorem BoxRu.on {w w' : World} {k : Nat} {c0 c1 c2 c3 c4 c5 : Value} (h : BoxRu w k c0 c1 c2 c3 c4 c5) (hb : Below w.heap.size w w') : BoxRu w' k c0 c1 c2 c3 c4 c5 := (hb.block k h.lt).trans h
theorem boxRu_new (w : World) (c0 c1 c2 c3 c4 c5 : Value) : BoxRu (w.alloc (.cells #[c0, c1, c2, c3, c4, c5] 47)) w.heap.size c0 c1 c2 c3 c4 c5 := alloc_new' _ _
def BoxDe (w : World) (k : Nat) (c0 c1 : Value) : Prop := w.heap[k]? = some (.cells #[c0, c1] 112 (0, 0))
theorem BoxDe.cells {w : World} {k : Nat} {c0 c1 : Value} (h : BoxDe w k c0 c1) : w.cell? ⟨k, 0, none⟩ = some c0 ∧ w.cell? ⟨k, 1, none⟩ = some c1 :=
 ⟨cell_of_block' h _ rfl, cell_of_block' h _ rfl⟩
theorem BoxDe.lt {w : World} {k : Nat} {c0 c1 : Value} (h : BoxDe w k c0 c1) : k < w.heap.size := (Array.getElem?_eq_some_iff.1 h).1
theorem BoxDe.on {w w' : World} {k : Nat} {c0 c1 : Value} (h : BoxDe w k c0 c1) (hb : Below w.heap.size w w') : BoxDe w' k c0 c1 := (hb.block k h.lt).trans h
theorem boxDe_new (w : World) (c0 c1 : Value) : BoxDe (w.alloc (.cells #[c0, c1] 112)) w.heap.size c0 c1 := alloc_new' _ _
def BoxFa (w : World) (k : Nat) (c0 c1 : Value) : Prop := w.heap[k]? = some (.cells #[c0, c1] 73 (0, 0))
theorem BoxFa.cells {w : World} {k : Nat} {c0 c1 : Value} (h : BoxFa w k c0 c1) : w.cell? ⟨k, 0, none⟩ = some c0 ∧ w.cell? ⟨k, 1, none⟩ = some c1 :=
 ⟨cell_of_block' h _ rfl, cell_of_block' h _ rfl⟩
theorem BoxFa.lt {w : World} {k : Nat} {c0 c1 : Value} (h : BoxFa w k c0 c1) : k < w.heap.size := (Array.getElem?_eq_some_iff.1 h).1
theorem BoxFa.on {w w' : World} {k : Nat} {c0 c1 : Value} (h : BoxFa w k c0 c1) (hb : Below w.heap.size w w') : BoxFa w' k c0 c1 := (hb.block k h.lt).trans h
theorem boxFa_new (w : World) (c0 c1 : Value) : BoxFa (w.alloc (.cells #[c0, c1] 73)) w.heap.size c0 c1 := alloc_new' _ _
def BoxPr (w : World) (k : Nat) (c0 c1 c2 : Value) : Prop := w.heap[k]? = some (.cells #[c0, c1, c2] 28 (0, 0))
theorem BoxPr.cells {w : World} {k : Nat} {c0 c1 c2 : Value} (h : BoxPr w k c0 c1 c2) : w.cell? ⟨k, 0, none⟩ = some c0 ∧ w.cell? ⟨k, 1, none⟩ = some c1 ∧ w.cell? ⟨k, 2, none⟩ = some c2 :=
 ⟨cell_of_block' h _ rfl, cell_of_block' h _ rfl, cell_of_block' h _ rfl⟩
theorem BoxPr.lt {w : World} {k : Nat} {c0 c1 c2 : Value} (h : BoxPr w k c0 c1 c2) : k < w.heap.size := (Array.getElem?_eq_some_iff.1 h).1
theorem BoxPr.on {w w' : World} {k : Nat} {c0 c1 c2 : Value} (h : BoxPr w k c0 c1 c2) (hb : Below w.heap.size w w') : BoxPr w' k c0 c1 c2 := (hb.block k h.lt).trans h
theorem boxPr_new (w : World) (c0 c1 c2 : Value) : BoxPr (w.alloc (.cells #[c0, c1, c2] 28)) w.heap.size c0 c1 c2 := alloc_new' _ _
end Go.Proofs.YtjmnnjikmmglpaaGreat
