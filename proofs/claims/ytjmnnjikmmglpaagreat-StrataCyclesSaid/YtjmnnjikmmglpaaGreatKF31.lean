/-
  HangKit
-/
import Derived.Test.YtjmnnjikmmglpaaGreatKF30
namespace Go.Proofs.YtjmnnjikmmglpaaGreat
open Go.RowKit
theorem Firm.ahead {l : List Stp} {n i k j : Nat} (hk : k < n) (h : Firm l n i k) (hw : Way l n k j) : Firm l n i j := by
 obtain ⟨s, hs, hr, h1, h2⟩ := h;refine ⟨s, hs, hr, h1, .inr ?_⟩;rcases h2 with h2 | h2
 ·rw [h2]; exact hw
 ·exact Way.trans hk h2 hw
def setT (F : Nat → Nat → Bool) (i j : Nat) (v : Bool) : Nat → Nat → Bool := fun a b => if a = i ∧ b = j then v else F a b
theorem setT_same (F : Nat → Nat → Bool) (i j : Nat) (v : Bool) : setT F i j v i j = v := by rw [setT, if_pos ⟨rfl, rfl⟩]
theorem setT_other {F : Nat → Nat → Bool} {i j a b : Nat} {v : Bool} (h : ¬ (a = i ∧ b = j)) : setT F i j v a b = F a b := by rw [setT, if_neg h]
theorem setT_more {F : Nat → Nat → Bool} {i j a b : Nat} {v : Bool} (hv : F i j = true → v = true) (h : F a b = true) : setT F i j v a b = true := by
 rw [setT]; split
 ·next he => rw [he.1, he.2] at h; exact hv h
 ·exact h
structure BaseT (l : List Stp) (A S : Nat → Nat → Bool) : Prop where
 any : ∀ i j, A i j = true → ∃ s ∈ l, s.rel = i ∧ s.on = j
 firm : ∀ i j, S i j = true → ∃ s ∈ l, s.rise = 1 ∧ s.rel = i ∧ s.on = j
 has : ∀ s ∈ l, A s.rel s.on = true
 hasF : ∀ s ∈ l, s.rise = 1 → S s.rel s.on = true
theorem BaseT.nil : BaseT [] (fun _ _ => false) (fun _ _ => false) := ⟨fun _ _ h => (by cases h), fun _ _ h => (by cases h), fun _ h => (by cases h), fun _ h => (by cases h)⟩
theorem BaseT.add {l : List Stp} {A S : Nat → Nat → Bool} (h : BaseT l A S) (s : Stp) : BaseT (l ++ [s]) (setT A s.rel s.on true) (setT S s.rel s.on (S s.rel s.on || s.rise == 1)) := by
 refine ⟨fun i j hij => ?_, fun i j hij => ?_, fun x hx => ?_, fun x hx hr => ?_⟩
 ·by_cases he : i = s.rel ∧ j = s.on
  ·exact ⟨s, by simp, he.1.symm, he.2.symm⟩
  ·rw [setT_other he] at hij
   obtain ⟨x, hx, h1, h2⟩ := h.any i j hij;exact ⟨x, by simp [hx], h1, h2⟩
 ·by_cases he : i = s.rel ∧ j = s.on
  ·obtain ⟨rfl, rfl⟩ := he
   rw [setT_same, Bool.or_eq_true] at hij;rcases hij with hij | hij
   ·obtain ⟨x, hx, h1, h2⟩ := h.firm _ _ hij
    exact ⟨x, by simp [hx], h1, h2⟩
   ·exact ⟨s, by simp, by simpa using hij, rfl, rfl⟩
  ·rw [setT_other he] at hij
   obtain ⟨x, hx, h1, h2⟩ := h.firm i j hij;exact ⟨x, by simp [hx], h1, h2⟩
 ·rcases List.mem_append.1 hx with hx | hx
  ·exact setT_more (fun _ => rfl) (h.has x hx)
  ·rw [List.mem_singleton.1 hx]; exact setT_same _ _ _ _
 ·rcases List.mem_append.1 hx with hx | hx
  ·exact setT_more (fun e => by rw [e]; rfl) (h.hasF x hx hr)
  ·rw [List.mem_singleton.1 hx] at hr ⊢; rw [setT_same, hr]; simp
theorem BaseT.pass {l : List Stp} {A S : Nat → Nat → Bool} {n : Nat} (h : BaseT l A S) : PassA l n 0 A S := by
 refine ⟨⟨fun i _ j _ hij => ?_, fun i _ j _ hij => ?_, h.has, h.hasF⟩, fun i _ j _ hw => ?_, fun _ _ _ _ hl => absurd hl (Nat.not_lt_zero _)⟩
 ·obtain ⟨s, hs, rfl, rfl⟩ := h.any i j hij; exact step_way hs n
 ·obtain ⟨s, hs, hr, rfl, rfl⟩ := h.firm i j hij; exact ⟨s, hs, hr, .inl rfl, .inl rfl⟩
 ·obtain ⟨s, hs, rfl, rfl⟩ := hw; exact h.has s hs
structure InA (l : List Stp) (n k i j : Nat) (A0 S0 A S : Nat → Nat → Bool) : Prop where
 tabs : Tabs l n A S
 keepA : ∀ a < n, ∀ b < n, A0 a b = true → A a b = true
 keepS : ∀ a < n, ∀ b < n, S0 a b = true → S a b = true
 any : ∀ a < n, ∀ b < n, (a < i ∨ a = i ∧ b < j) → A0 a k = true → A0 k b = true → A a b = true
 firm : ∀ a < n, ∀ b < n, (a < i ∨ a = i ∧ b < j) → A0 a k = true → A0 k b = true → S0 a k = true ∨ S0 k b = true → S a b = true
theorem InA.start {l : List Stp} {n k : Nat} {A S : Nat → Nat → Bool} (h : Tabs l n A S) : InA l n k 0 0 A S A S :=
 ⟨h, fun _ _ _ _ h => h, fun _ _ _ _ h => h, fun _ _ _ _ h => by omega, fun _ _ _ _ h => by omega⟩
theorem InA.row {l : List Stp} {n k i : Nat} {A0 S0 A S : Nat → Nat → Bool} (h : InA l n k i n A0 S0 A S) : InA l n k (i + 1) 0 A0 S0 A S :=
 ⟨h.tabs, h.keepA, h.keepS, fun a ha b hb _ => h.any a ha b hb (by omega), fun a ha b hb _ => h.firm a ha b hb (by omega)⟩
theorem InA.done {l : List Stp} {n k : Nat} {A0 S0 A S : Nat → Nat → Bool} (h : InA l n k n 0 A0 S0 A S) : RndA n k A0 S0 A S :=
 ⟨h.keepA, h.keepS, fun a ha b hb => h.any a ha b hb (by omega), fun a ha b hb => h.firm a ha b hb (by omega)⟩
theorem InA.skip {l : List Stp} {n k i j : Nat} {A0 S0 A S : Nat → Nat → Bool} (h : InA l n k i j A0 S0 A S) (hk : k < n) (hno : ¬ (A i k = true ∧ A k j = true)) : InA l n k i (j + 1) A0 S0 A S := by
 refine ⟨h.tabs, h.keepA, h.keepS, fun a ha b hb hab h1 h2 => ?_, fun a ha b hb hab h1 h2 => ?_⟩
 ·by_cases he : a = i ∧ b = j
  ·obtain ⟨rfl, rfl⟩ := he; exact absurd ⟨h.keepA a ha k hk h1, h.keepA k hk b hb h2⟩ hno
  ·exact h.any a ha b hb (by omega) h1 h2
 ·by_cases he : a = i ∧ b = j
  ·obtain ⟨rfl, rfl⟩ := he; exact absurd ⟨h.keepA a ha k hk h1, h.keepA k hk b hb h2⟩ hno
  ·exact h.firm a ha b hb (by omega) h1 h2
theorem InA.step {l : List Stp} {n k i j : Nat} {A0 S0 A S : Nat → Nat → Bool} (h : InA l n k i j A0 S0 A S) (hk : k < n) (hi : i < n) (hj : j < n) (h1 : A i k = true) (h2 : A k j = true) :
  InA l n k i (j + 1) A0 S0 (setT A i j true) (setT S i j (S i j || (S i k || S k j))) := by
 have hw1 := h.tabs.any i hi k hk h1;have hw2 := h.tabs.any k hk j hj h2;refine ⟨⟨fun a ha b hb hab => ?_, fun a ha b hb hab => ?_, fun s hs => setT_more (fun _ => rfl) (h.tabs.has s hs), fun s hs hr => setT_more (fun e => by rw [e]; rfl) (h.tabs.hasF s hs hr)⟩, fun a ha b hb hab => setT_more (fun _ => rfl) (h.keepA a ha b hb hab), fun a ha b hb hab => setT_more (fun e => by rw [e]; rfl) (h.keepS a ha b hb hab), fun a ha b hb hab g1 g2 => ?_, fun a ha b hb hab g1 g2 g3 => ?_⟩
 ·by_cases he : a = i ∧ b = j
  ·obtain ⟨rfl, rfl⟩ := he; exact Way.trans hk hw1 hw2
  ·rw [setT_other he] at hab; exact h.tabs.any a ha b hb hab
 ·by_cases he : a = i ∧ b = j
  ·obtain ⟨rfl, rfl⟩ := he
   rw [setT_same, Bool.or_eq_true, Bool.or_eq_true] at hab;rcases hab with hab | hab | hab
   ·exact h.tabs.firm a ha b hb hab
   ·exact Firm.ahead hk (h.tabs.firm a ha k hk hab) hw2
   ·exact Firm.behind hk hw1 (h.tabs.firm k hk b hb hab)
  ·rw [setT_other he] at hab; exact h.tabs.firm a ha b hb hab
 ·by_cases he : a = i ∧ b = j
  ·obtain ⟨rfl, rfl⟩ := he; exact setT_same _ _ _ _
  ·rw [setT_other he]; exact h.any a ha b hb (by omega) g1 g2
 ·by_cases he : a = i ∧ b = j
  ·obtain ⟨rfl, rfl⟩ := he
   rw [setT_same, Bool.or_eq_true, Bool.or_eq_true];rcases g3 with g3 | g3
   ·exact .inr (.inl (h.keepS a ha k hk g3))
   ·exact .inr (.inr (h.keepS k hk b hb g3))
  ·rw [setT_other he]; exact h.firm a ha b hb (by omega) g1 g2 g3
structure InS (l : List Stp) (n k i j : Nat) (A S0 S : Nat → Nat → Bool) : Prop where
 tabs : Tabs l n A S
 keep : ∀ a < n, ∀ b < n, S0 a b = true → S a b = true
 firm : ∀ a < n, ∀ b < n, (a < i ∨ a = i ∧ b < j) → A a k = true → A k b = true → S0 a k = true ∨ S0 k b = true → S a b = true
theorem InS.start {l : List Stp} {n k : Nat} {A S : Nat → Nat → Bool} (h : Tabs l n A S) : InS l n k 0 0 A S S :=
 ⟨h, fun _ _ _ _ h => h, fun _ _ _ _ h => by omega⟩
theorem InS.row {l : List Stp} {n k i : Nat} {A S0 S : Nat → Nat → Bool} (h : InS l n k i n A S0 S) : InS l n k (i + 1) 0 A S0 S :=
 ⟨h.tabs, h.keep, fun a ha b hb _ => h.firm a ha b hb (by omega)⟩
theorem InS.done {l : List Stp} {n k : Nat} {A S0 S : Nat → Nat → Bool} (h : InS l n k n 0 A S0 S) : RndS n k A S0 S :=
 ⟨h.keep, fun a ha b hb => h.firm a ha b hb (by omega)⟩
theorem InS.skip {l : List Stp} {n k i j : Nat} {A S0 S : Nat → Nat → Bool} (h : InS l n k i j A S0 S) (hno : ¬ (A i k = true ∧ A k j = true)) : InS l n k i (j + 1) A S0 S := by
 refine ⟨h.tabs, h.keep, fun a ha b hb hab h1 h2 => ?_⟩
 by_cases he : a = i ∧ b = j
 ·obtain ⟨rfl, rfl⟩ := he; exact absurd ⟨h1, h2⟩ hno
 ·exact h.firm a ha b hb (by omega) h1 h2
theorem InS.step {l : List Stp} {n k i j : Nat} {A S0 S : Nat → Nat → Bool} (h : InS l n k i j A S0 S) (hk : k < n) (hi : i < n) (hj : j < n) (h1 : A i k = true) (h2 : A k j = true) :
  InS l n k i (j + 1) A S0 (setT S i j (S i j || (S i k || S k j))) := by
 have hw1 := h.tabs.any i hi k hk h1;have hw2 := h.tabs.any k hk j hj h2;refine ⟨⟨h.tabs.any, fun a ha b hb hab => ?_, h.tabs.has, fun s hs hr => setT_more (fun e => by rw [e]; rfl) (h.tabs.hasF s hs hr)⟩, fun a ha b hb hab => setT_more (fun e => by rw [e]; rfl) (h.keep a ha b hb hab), fun a ha b hb hab g1 g2 g3 => ?_⟩
 ·by_cases he : a = i ∧ b = j
  ·obtain ⟨rfl, rfl⟩ := he
   rw [setT_same, Bool.or_eq_true, Bool.or_eq_true] at hab;rcases hab with hab | hab | hab
   ·exact h.tabs.firm a ha b hb hab
   ·exact Firm.ahead hk (h.tabs.firm a ha k hk hab) hw2
   ·exact Firm.behind hk hw1 (h.tabs.firm k hk b hb hab)
  ·rw [setT_other he] at hab; exact h.tabs.firm a ha b hb hab
 ·by_cases he : a = i ∧ b = j
  ·obtain ⟨rfl, rfl⟩ := he
   rw [setT_same, Bool.or_eq_true, Bool.or_eq_true];rcases g3 with g3 | g3
   ·exact .inr (.inl (h.keep a ha k hk g3))
   ·exact .inr (.inr (h.keep k hk b hb g3))
  ·rw [setT_other he]; exact h.firm a ha b hb (by omega) g1 g2 g3
def TabAt (w : World) (b : Nat) (F : Nat → Nat → Bool) : Prop := ∃ arr : Array Value, w.heap[b]? = some (.cells arr 37 (0, 0)) ∧ arr.size = 36 ∧ ∀ i < 6, ∀ j < 6, arr[i * 6 + j]? = some (.bool (F i j))
theorem TabAt.lt {w : World} {b : Nat} {F : Nat → Nat → Bool} (h : TabAt w b F) : b < w.heap.size := by
 obtain ⟨arr, h, -⟩ := h;exact (Array.getElem?_eq_some_iff.1 h).1
theorem TabAt.on {w w' : World} {b : Nat} {F : Nat → Nat → Bool} (h : TabAt w b F) (hg : Below w.heap.size w w') : TabAt w' b F := by
 have hl := h.lt;obtain ⟨arr, h, h1, h2⟩ := h;exact ⟨arr, (hg.block b hl).trans h, h1, h2⟩
theorem TabAt.cell {w : World} {b : Nat} {F : Nat → Nat → Bool} (h : TabAt w b F) {i j : Nat} (hi : i < 6) (hj : j < 6) : w.cell? ⟨b, i * 6 + j, none⟩ = some (.bool (F i j)) := by
 obtain ⟨arr, h, h1, h2⟩ := h;exact cell_of_block' h _ (h2 i hi j hj)
theorem TabAt.frozen {w : World} {b : Nat} {F : Nat → Nat → Bool} (h : TabAt w b F) (k : Nat) : w.frozen? ⟨b, k, none⟩ = false := by
 obtain ⟨arr, h, -⟩ := h;exact frozen_of_row w b k _ _ h
theorem TabAt.put {w : World} {b : Nat} {F : Nat → Nat → Bool} (h : TabAt w b F) {i j : Nat} (hi : i < 6) (hj : j < 6) (v : Bool) : TabAt (w.setCell ⟨b, i * 6 + j, none⟩ (.bool v)) b (setT F i j v) := by
 obtain ⟨arr, h, h1, h2⟩ := h;refine ⟨_, heap_setCell_same _ _ _ _ _ _ h, by simpa using h1, fun a ha c hc => ?_⟩;rw [Array.getElem?_setIfInBounds, setT]
 by_cases he : a = i ∧ c = j
 ·obtain ⟨rfl, rfl⟩ := he
  rw [if_pos rfl, if_pos (by omega), if_pos ⟨rfl, rfl⟩]
 ·rw [if_neg (by omega), if_neg he]; exact h2 a ha c hc
theorem TabAt.other {w : World} {b g : Nat} {F : Nat → Nat → Bool} (h : TabAt w b F) (hne : b ≠ g) (k : Nat) (v : Value) : TabAt (w.setCell ⟨g, k, none⟩ v) b F := by
 obtain ⟨arr, h, h1, h2⟩ := h;exact ⟨arr, (Below.heap_setCell _ _ _ _ hne).trans h, h1, h2⟩
theorem tabAt_new (w : World) (arr : Array Value) (hs : arr.size = 36) (h : ∀ i < 6, ∀ j < 6, arr[i * 6 + j]? = some (.bool false)) : TabAt (w.alloc (.cells arr 37)) w.heap.size (fun _ _ => false) := ⟨arr, alloc_new' _ _, hs, h⟩
end Go.Proofs.YtjmnnjikmmglpaaGreat
