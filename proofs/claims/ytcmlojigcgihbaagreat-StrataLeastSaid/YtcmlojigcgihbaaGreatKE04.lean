/-
  StrPure, RegionFA, TermBox, FlatKit, RowKit, PickZ, RawSix, PickSix, Own
-/
import Derived.Test.YtcmlojigcgihbaaGreatKE03
import Derived.Test.YtcmlojigcgihbaaGreatKE02
import Derived.Test.YtcmlojigcgihbaaGreatKE01
import Derived.WalkSpells
import Derived.WalkLawsBesides
namespace Go.Proofs.YtcmlojigcgihbaaGreat
structure Stp where
 rel : Nat
 on : Nat
 rise : Nat
def Sol (l : List Stp) (f : Nat → Nat) : Prop := ∀ s ∈ l, f s.on + s.rise ≤ f s.rel
def Low (n : Nat) (l : List Stp) (f : Nat → Nat) : Prop := ∀ g, Sol l g → ∀ i < n, f i ≤ g i
def Inside (n : Nat) (l : List Stp) : Prop := ∀ s ∈ l, s.rel < n ∧ s.on < n ∧ s.rise ≤ 1
def LeastN (n : Nat) (l : List Stp) (f : Nat → Nat) : Prop := Sol l f ∧ Low n l f
theorem countP_more {p q : Nat → Bool} (hpq : ∀ j, p j = true → q j = true) : ∀ l : List Nat, l.countP p ≤ l.countP q
 | [] => Nat.le_refl _
 | a :: l => by
  have ih := countP_more hpq l;simp only [List.countP_cons]
  cases hp : p a with
  | false => simp only [Bool.false_eq_true, if_false]; omega
  | true => rw [hpq a hp]; simp only [if_true]; omega
theorem countP_less {p q : Nat → Bool} (hpq : ∀ j, p j = true → q j = true) : ∀ (l : List Nat) (j : Nat), j ∈ l → q j = true → p j = false → l.countP p + 1 ≤ l.countP q
 | [], j, h, _, _ => by cases h
 | a :: l, j, h, hq, hp => by
  simp only [List.countP_cons]
  by_cases ha : j = a
  ·subst ha
   have := countP_more hpq l;rw [hq, hp]; simp only [if_true, Bool.false_eq_true, if_false]; omega
  ·have hm : j ∈ l := by cases h with
    | head => exact absurd rfl ha
    | tail _ h => exact h
   have ih := countP_less hpq l j hm hq hp
   cases hpa : p a with
   | false => simp only [Bool.false_eq_true, if_false]; omega
   | true => rw [hpq a hpa]; simp only [if_true]; omega
theorem count_values (f : Nat → Nat) (n : Nat) : ∀ k, (∀ u < k, ∃ j < n, f j = u) → (List.range n).countP (fun j => decide (k ≤ f j)) + k ≤ n
 | 0, _ => by have h := List.countP_le_length (p := fun j => decide (0 ≤ f j)) (l := List.range n); rw [List.length_range] at h; omega
 | k + 1, h => by
  have ih := count_values f n k fun u hu => h u (by omega)
  obtain ⟨j, hj, hjk⟩ := h k (by omega);have := countP_less (p := fun j => decide (k + 1 ≤ f j)) (q := fun j => decide (k ≤ f j)) (fun j hj => by simp only [decide_eq_true_eq] at hj ⊢; omega) (List.range n) j (List.mem_range.2 hj) (by simp [hjk]) (by simp [hjk]);omega
theorem missing (f : Nat → Nat) (n i : Nat) (hi : i < n) (h : n ≤ f i) : ∃ u, u < n ∧ ∀ j < n, f j ≠ u := by
 by_cases hex : ∃ u, u < n ∧ ∀ j < n, f j ≠ u
 ·exact hex
 ·exfalso
  have hall : ∀ u < n, ∃ j < n, f j = u := by
   intro u hu
   by_cases h' : ∃ j, j < n ∧ f j = u
   ·exact h'
   ·exact absurd ⟨u, hu, fun j hj he => h' ⟨j, hj, he⟩⟩ hex
  have h1 := count_values f n n hall;have h2 := countP_less (p := fun _ => false) (q := fun j => decide (n ≤ f j)) (fun j hj => by simp at hj) (List.range n) i (List.mem_range.2 hi) (by simpa using h) rfl;omega
def total : Nat → (Nat → Nat) → Nat
 | 0, _ => 0
 | n + 1, f => total n f + f n
theorem total_le {f g : Nat → Nat} : ∀ n, (∀ i < n, g i ≤ f i) → total n g ≤ total n f
 | 0, _ => Nat.le_refl _
 | n + 1, h => by have := total_le n fun i hi => h i (by omega); have := h n (by omega); simp only [total]; omega
theorem total_lt {f g : Nat → Nat} : ∀ n, (∀ i < n, g i ≤ f i) → ∀ i < n, g i < f i → total n g < total n f
 | 0, _, i, hi, _ => by omega
 | n + 1, h, i, hi, hl => by
  simp only [total]
  have hn := h n (by omega)
  by_cases he : i = n
  ·subst he
   have := total_le i fun j hj => h j (by omega)
   omega
  ·have := total_lt n (fun j hj => h j (by omega)) i (by omega) hl
   omega
theorem total_bound {f : Nat → Nat} {b : Nat} : ∀ n, (∀ i < n, f i ≤ b) → total n f ≤ n * b
 | 0, _ => by simp [total]
 | n + 1, h => by have := total_bound n fun i hi => h i (by omega); have := h n (by omega); simp only [total, Nat.succ_mul]; omega
theorem compress {n : Nat} {l : List Stp} (hin : Inside n l) : ∀ (m : Nat) (f : Nat → Nat), total n f ≤ m → Sol l f → ∃ g, Sol l g ∧ (∀ i < n, g i < n) := by
 intro m
 induction m with
 | zero =>
  intro f hm hf
  by_cases h : ∃ i, i < n ∧ n ≤ f i
  ·obtain ⟨i, hi, hl⟩ := h
   have := total_lt (f := f) (g := fun _ => 0) n (fun _ _ => Nat.zero_le _) i hi (by show 0 < f i; omega);omega
  ·exact ⟨f, hf, fun i hi => by by_cases hl : n ≤ f i; exact absurd ⟨i, hi, hl⟩ h; omega⟩
 | succ m ih =>
  intro f hm hf
  by_cases h : ∃ i, i < n ∧ n ≤ f i
  ·obtain ⟨i, hi, hl⟩ := h
   obtain ⟨u, hu, hno⟩ := missing f n i hi hl;refine ih (fun j => if u < f j then f j - 1 else f j) ?_ ?_
   ·have := total_lt (f := f) (g := fun j => if u < f j then f j - 1 else f j) n (fun j _ => by split <;> omega) i hi (by rw [if_pos (by omega)]; omega)
    omega
   ·intro s hs
    have h1 := hf s hs;obtain ⟨h2, h3, h4⟩ := hin s hs;have h5 := hno s.on h3;have h6 := hno s.rel h2
    dsimp only
    split <;> split <;> omega
  ·exact ⟨f, hf, fun i hi => by by_cases hl : n ≤ f i; exact absurd ⟨i, hi, hl⟩ h; omega⟩
theorem Low.zero (n : Nat) (l : List Stp) : Low n l fun _ => 0 := fun _ _ _ _ => Nat.zero_le _
def putN (f : Nat → Nat) (r v : Nat) : Nat → Nat := fun i => if i = r then v else f i
theorem Low.step {n : Nat} {l : List Stp} {f : Nat → Nat} (h : Low n l f) (hin : Inside n l) {s : Stp} (hs : s ∈ l) : Low n l (putN f s.rel (f s.on + s.rise)) := by
 intro g hg i hi;have h1 := hg s hs;have h2 := h g hg s.on (hin s hs).2.1;have h3 := h g hg i hi;rw [putN]
 by_cases he : i = s.rel
 ·rw [if_pos he, he]; omega
 ·rw [if_neg he]; exact h3
theorem Low.none {n : Nat} {l : List Stp} {f : Nat → Nat} (h : Low n l f) (hin : Inside n l) {s : Stp} (hs : s ∈ l) (hn : n ≤ f s.on + s.rise) : ¬ ∃ g, Sol l g := by
 rintro ⟨g, hg⟩;obtain ⟨g', h1, h2⟩ := compress hin _ g (Nat.le_refl _) hg;have h3 := h g' h1 s.on (hin s hs).2.1;have h4 := h1 s hs;have h5 := h2 s.rel (hin s hs).1;omega
theorem put_total {n : Nat} {f : Nat → Nat} {r v : Nat} (hr : r < n) (h : f r < v) : total n f < total n (putN f r v) := by
 refine total_lt n (fun i _ => ?_) r hr ?_
 ·rw [putN]; split
  ·next h' => rw [h']; omega
  ·exact Nat.le_refl _
 ·rw [putN, if_pos rfl]; exact h
theorem LeastN.same {n : Nat} {l m : List Stp} (h : ∀ s, s ∈ l ↔ s ∈ m) {f g : Nat → Nat} (hf : LeastN n l f) (hg : LeastN n m g) (i : Nat) (hi : i < n) : f i = g i :=
 Nat.le_antisymm (hf.2 g (fun s hs => hg.1 s ((h s).1 hs)) i hi) (hg.2 f (fun s hs => hf.1 s ((h s).2 hs)) i hi)
def Way (l : List Stp) : Nat → Nat → Nat → Prop
 | 0, i, j => ∃ s ∈ l, s.rel = i ∧ s.on = j
 | k + 1, i, j => Way l k i j ∨ (Way l k i k ∧ Way l k k j)
theorem Way.more {l : List Stp} {i j : Nat} : ∀ {k m : Nat}, k ≤ m → Way l k i j → Way l m i j := by
 intro k m h
 induction h with
 | refl => exact id
 | step _ ih => exact fun hw => Or.inl (ih hw)
theorem Way.trans {l : List Stp} : ∀ {m k i j : Nat}, k < m → Way l m i k → Way l m k j → Way l m i j
 | 0, _, _, _, h, _, _ => absurd h (Nat.not_lt_zero _)
 | m + 1, k, i, j, h, h1, h2 => by
  by_cases hk : k = m
  ·subst hk
   have a : Way l k i k := h1.elim id fun h => h.1
   have b : Way l k k j := h2.elim id fun h => h.2
   exact Or.inr ⟨a, b⟩
  ·have hl : k < m := by omega
   rcases h1 with h1 | ⟨h1, h1'⟩
   ·rcases h2 with h2 | ⟨h2, h2'⟩
    ·exact Or.inl (Way.trans hl h1 h2)
    ·exact Or.inr ⟨Way.trans hl h1 h2, h2'⟩
   ·rcases h2 with h2 | ⟨h2, h2'⟩
    ·exact Or.inr ⟨h1, Way.trans hl h1' h2⟩
    ·exact Or.inr ⟨h1, h2'⟩
theorem Way.sol {l : List Stp} {f : Nat → Nat} (hf : Sol l f) : ∀ {k i j : Nat}, Way l k i j → f j ≤ f i
 | 0, i, j, ⟨s, hs, h1, h2⟩ => by have := hf s hs; rw [h1, h2] at this; omega
 | k + 1, i, j, h => by
  rcases h with h | ⟨h1, h2⟩
  ·exact Way.sol hf h
  ·exact Nat.le_trans (Way.sol hf h2) (Way.sol hf h1)
def Firm (l : List Stp) (n i j : Nat) : Prop := ∃ s ∈ l, s.rise = 1 ∧ (i = s.rel ∨ Way l n i s.rel) ∧ (s.on = j ∨ Way l n s.on j)
theorem Firm.sol {l : List Stp} {f : Nat → Nat} (hf : Sol l f) {n i j : Nat} : Firm l n i j → f j + 1 ≤ f i := by
 rintro ⟨s, hs, hr, h1, h2⟩;have h3 := hf s hs;have h4 : f s.rel ≤ f i := h1.elim (fun h => by rw [h]; exact Nat.le_refl _) fun h => Way.sol hf h
 have h5 : f j ≤ f s.on := h2.elim (fun h => by rw [h]; exact Nat.le_refl _) fun h => Way.sol hf h
 omega
theorem Firm.behind {l : List Stp} {n i k j : Nat} (hk : k < n) (h : Way l n i k) : Firm l n k j → Firm l n i j := by
 rintro ⟨s, hs, hr, h1, h2⟩;refine ⟨s, hs, hr, Or.inr ?_, h2⟩;rcases h1 with h1 | h1
 ·rw [← h1]; exact h
 ·exact Way.trans hk h h1
theorem step_way {l : List Stp} {s : Stp} (hs : s ∈ l) (n : Nat) : Way l n s.rel s.on := Way.more (Nat.zero_le _) ⟨s, hs, rfl, rfl⟩
def maxTo (f : Nat → Nat) : Nat → Nat
 | 0 => 0
 | n + 1 => max (maxTo f n) (f n)
theorem maxTo_le {f : Nat → Nat} {b : Nat} : ∀ n, (∀ i < n, f i ≤ b) → maxTo f n ≤ b
 | 0, _ => Nat.zero_le _
 | n + 1, h => by have := maxTo_le n fun i hi => h i (by omega); have := h n (by omega); simp only [maxTo]; omega
theorem le_maxTo {f : Nat → Nat} : ∀ n, ∀ i < n, f i ≤ maxTo f n
 | 0, i, h => by omega
 | n + 1, i, h => by
  simp only [maxTo]
  by_cases he : i = n
  ·subst he; omega
  ·have := le_maxTo (f := f) n i (by omega); omega
theorem least_max {n : Nat} {l : List Stp} (hin : Inside n l) {f : Nat → Nat} (hf : LeastN n l f) {S : Nat → Nat → Bool} (hS : ∀ i < n, ∀ j < n, (S i j = true ↔ Firm l n i j)) (i : Nat) (hi : i < n) :
  f i = maxTo (fun j => if S i j = true then f j + 1 else 0) n := by
 apply Nat.le_antisymm
 ·refine hf.2 (fun i => maxTo (fun j => if S i j = true then f j + 1 else 0) n) (fun s hs => ?_) i hi
  obtain ⟨h1, h2, h3⟩ := hin s hs;have hw := step_way hs n
  dsimp only
  by_cases hr : s.rise = 1
  ·rw [hr]
   have ha : maxTo (fun j => if S s.on j = true then f j + 1 else 0) n ≤ f s.on := maxTo_le n fun j hj => by
    by_cases hb : S s.on j = true
    ·rw [if_pos hb]; exact Firm.sol hf.1 ((hS _ h2 _ hj).1 hb)
    ·rw [if_neg hb]; exact Nat.zero_le _
   have hc := le_maxTo (f := fun j => if S s.rel j = true then f j + 1 else 0) n s.on h2;rw [if_pos ((hS _ h1 _ h2).2 ⟨s, hs, hr, Or.inl rfl, Or.inl rfl⟩)] at hc;omega
  ·have hr0 : s.rise = 0 := by omega
   rw [hr0];refine maxTo_le n fun j hj => ?_
   by_cases hb : S s.on j = true
   ·rw [if_pos hb]
    have hc := le_maxTo (f := fun j => if S s.rel j = true then f j + 1 else 0) n j hj;rw [if_pos ((hS _ h1 _ hj).2 (Firm.behind h2 hw ((hS _ h2 _ hj).1 hb)))] at hc;exact hc
   ·rw [if_neg hb]; exact Nat.zero_le _
 ·refine maxTo_le n fun j hj => ?_
  by_cases hb : S i j = true
  ·rw [if_pos hb]; exact Firm.sol hf.1 ((hS _ hi _ hj).1 hb)
  ·rw [if_neg hb]; exact Nat.zero_le _
structure Tabs (l : List Stp) (n : Nat) (A S : Nat → Nat → Bool) : Prop where
 any : ∀ i < n, ∀ j < n, A i j = true → Way l n i j
 firm : ∀ i < n, ∀ j < n, S i j = true → Firm l n i j
 has : ∀ s ∈ l, A s.rel s.on = true
 hasF : ∀ s ∈ l, s.rise = 1 → S s.rel s.on = true
structure RndA (n k : Nat) (A S A' S' : Nat → Nat → Bool) : Prop where
 keepA : ∀ i < n, ∀ j < n, A i j = true → A' i j = true
 keepS : ∀ i < n, ∀ j < n, S i j = true → S' i j = true
 any : ∀ i < n, ∀ j < n, A i k = true → A k j = true → A' i j = true
 firm : ∀ i < n, ∀ j < n, A i k = true → A k j = true → S i k = true ∨ S k j = true → S' i j = true
structure PassA (l : List Stp) (n k : Nat) (A S : Nat → Nat → Bool) : Prop extends Tabs l n A S where
 way : ∀ i < n, ∀ j < n, Way l k i j → A i j = true
 loop : ∀ s ∈ l, s.rise = 1 → s.rel = s.on → s.rel < k → ∀ i < n, Way l k i s.rel → S i s.rel = true
theorem PassA.next {l : List Stp} {n k : Nat} {A S A' S' : Nat → Nat → Bool} (hin : Inside n l) (hk : k < n) (h : PassA l n k A S) (r : RndA n k A S A' S') (ht : Tabs l n A' S') : PassA l n (k + 1) A' S' := by
 refine ⟨ht, ?_, ?_⟩
 ·rintro i hi j hj (hw | ⟨h1, h2⟩)
  ·exact r.keepA i hi j hj (h.way i hi j hj hw)
  ·exact r.any i hi j hj (h.way i hi k hk h1) (h.way k hk j hj h2)
 ·intro s hs hr he hl i hi hw
  obtain ⟨a1, a2, a3⟩ := hin s hs
  by_cases hc : s.rel = k
  ·have hw' : Way l k i s.rel := hw.elim id fun h => by rw [hc]; exact h.1
   have b1 := h.way i hi s.rel a1 hw';have b2 := h.has s hs;have b3 := h.hasF s hs hr;rw [← he] at b2 b3;rw [hc] at b1 b2 b3 ⊢;exact r.firm i hi k hk b1 b2 (Or.inr b3)
  ·have hlk : s.rel < k := by omega
   rcases hw with hw | ⟨h1, h2⟩
   ·exact r.keepS i hi s.rel a1 (h.loop s hs hr he hlk i hi hw)
   ·exact r.firm i hi s.rel a1 (h.way i hi k hk h1) (h.way k hk s.rel a1 h2) (Or.inr (h.loop s hs hr he hlk k hk h2))
structure RndS (n k : Nat) (A S S' : Nat → Nat → Bool) : Prop where
 keep : ∀ i < n, ∀ j < n, S i j = true → S' i j = true
 firm : ∀ i < n, ∀ j < n, A i k = true → A k j = true → S i k = true ∨ S k j = true → S' i j = true
structure PassS (l : List Stp) (n k : Nat) (A S : Nat → Nat → Bool) : Prop extends Tabs l n A S where
 way : ∀ i < n, ∀ j < n, Way l n i j → A i j = true
 loop : ∀ s ∈ l, s.rise = 1 → s.rel = s.on → ∀ i < n, Way l n i s.rel → S i s.rel = true
 front : ∀ s ∈ l, s.rise = 1 → s.rel < k → ∀ i < n, Way l n i s.rel → S i s.on = true
 back : ∀ s ∈ l, s.rise = 1 → s.on < k → ∀ j < n, Way l n s.on j → S s.rel j = true
 both : ∀ s ∈ l, s.rise = 1 → s.rel < k → s.on < k → ∀ i < n, ∀ j < n, Way l n i s.rel → Way l n s.on j → S i j = true
theorem PassA.pass {l : List Stp} {n : Nat} {A S : Nat → Nat → Bool} (hin : Inside n l) (h : PassA l n n A S) : PassS l n 0 A S :=
 ⟨h.toTabs, h.way, fun s hs hr he i hi hw => h.loop s hs hr he (hin s hs).1 i hi hw, fun _ _ _ hl => absurd hl (Nat.not_lt_zero _), fun _ _ _ hl => absurd hl (Nat.not_lt_zero _), fun _ _ _ hl => absurd hl (Nat.not_lt_zero _)⟩
theorem PassS.next {l : List Stp} {n k : Nat} {A S S' : Nat → Nat → Bool} (hin : Inside n l) (h : PassS l n k A S) (r : RndS n k A S S') (ht : Tabs l n A S') : PassS l n (k + 1) A S' := by
 have hfront : ∀ s ∈ l, s.rise = 1 → s.rel < k + 1 → ∀ i < n, Way l n i s.rel → S' i s.on = true := by
  intro s hs hr hl i hi hw;obtain ⟨a1, a2, -⟩ := hin s hs
  by_cases hc : s.rel = k
  ·have b1 := h.way i hi _ a1 hw
   have b2 := h.has s hs;have b3 := h.hasF s hs hr;rw [hc] at b1 b2 b3;exact r.firm i hi _ a2 b1 b2 (Or.inr b3)
  ·exact r.keep i hi _ a2 (h.front s hs hr (by omega) i hi hw)
 have hback : ∀ s ∈ l, s.rise = 1 → s.on < k + 1 → ∀ j < n, Way l n s.on j → S' s.rel j = true := by
  intro s hs hr hl j hj hw;obtain ⟨a1, a2, -⟩ := hin s hs
  by_cases hc : s.on = k
  ·have b1 := h.way _ a2 j hj hw
   have b2 := h.has s hs;have b3 := h.hasF s hs hr;rw [hc] at b1 b2 b3;exact r.firm _ a1 j hj b2 b1 (Or.inl b3)
  ·exact r.keep _ a1 j hj (h.back s hs hr (by omega) j hj hw)
 refine ⟨ht, h.way, fun s hs hr he i hi hw => r.keep i hi _ (hin s hs).1 (h.loop s hs hr he i hi hw), hfront, hback, ?_⟩;intro s hs hr h1 h2 i hi j hj w1 w2;obtain ⟨a1, a2, -⟩ := hin s hs;have hst := step_way hs n
 by_cases hu : s.rel = k
 ·by_cases hv : s.on = k
  ·-- a strict step to itself
   have b1 := h.way i hi _ a1 w1;have b2 := h.way _ a2 j hj w2;have b3 := h.loop s hs hr (by rw [hu, hv]) i hi w1;rw [hu] at b1 b3; rw [hv] at b2
   exact r.firm i hi j hj b1 b2 (Or.inl b3)
  ·have b1 := h.way i hi _ a1 w1
   have b2 := h.way _ a1 j hj (Way.trans a2 hst w2);have b3 := h.back s hs hr (by omega) j hj w2;rw [hu] at b1 b2 b3;exact r.firm i hi j hj b1 b2 (Or.inr b3)
 ·by_cases hv : s.on = k
  ·have b1 := h.way i hi _ a2 (Way.trans a1 w1 hst)
   have b2 := h.way _ a2 j hj w2;have b3 := h.front s hs hr (by omega) i hi w1;rw [hv] at b1 b2 b3;exact r.firm i hi j hj b1 b2 (Or.inl b3)
  ·exact r.keep i hi j hj (h.both s hs hr (by omega) (by omega) i hi j hj w1 w2)
theorem PassS.whole {l : List Stp} {n : Nat} {A S : Nat → Nat → Bool} (hin : Inside n l) (h : PassS l n n A S) : ∀ i < n, ∀ j < n, (S i j = true ↔ Firm l n i j) := by
 refine fun i hi j hj => ⟨h.firm i hi j hj, ?_⟩
 rintro ⟨s, hs, hr, h1, h2⟩;obtain ⟨a1, a2, -⟩ := hin s hs;rcases h1 with h1 | h1
 ·rw [h1]
  rcases h2 with h2 | h2
  ·rw [← h2]; exact h.hasF s hs hr
  ·exact h.back s hs hr a2 j hj h2
 ·rcases h2 with h2 | h2
  ·rw [← h2]; exact h.front s hs hr a1 i hi h1
  ·exact h.both s hs hr a1 a2 i hi j hj h1 h2
end Go.Proofs.YtcmlojigcgihbaaGreat
namespace Go.Proofs.YtcmlojigcgihbaaGreat
open Go.RowKit
inductive FE where
 | e (c : Value)
 | p (P : World → Value → Prop)
 | o
def FE.ok (w : World) (v : Value) : FE → Prop
 | .e c => v = c
 | .p P => P w v
 | .o => True
def FA (l : List FE) (w : World) (i : Nat) (v : Value) : Prop := FE.ok w v (l.getD i .o)
def FSt (w w' : World) : List FE → Prop
 | [] => True
 | .e _ :: l => FSt w w' l
 | .p P :: l => (∀ v, P w v → P w' v) ∧ FSt w w' l
 | .o :: l => FSt w w' l
theorem fSt : ∀ {l : List FE} {w w' : World}, FSt w w' l → ∀ i v, FA l w i v → FA l w' i v
 | [], _, _, _, _, _, _ => trivial
 | .e _ :: _, _, _, _, 0, _, g => g
 | .p _ :: _, _, _, h, 0, v, g => h.1 v g
 | .o :: _, _, _, _, 0, _, _ => trivial
 | .e _ :: l, _, _, h, i + 1, v, g => fSt (l := l) h i v g
 | .p _ :: l, _, _, h, i + 1, v, g => fSt (l := l) h.2 i v g
 | .o :: l, _, _, h, i + 1, v, g => fSt (l := l) h i v g
inductive FP where
 | e (c : Value)
 | p (P : World → Value → Prop)
 | t (P : World → Value → Prop)
 | o
def FP.ok (ph : Bool) (w : World) (v : Value) : FP → Prop
 | .e c => v = c
 | .p P => ph = false → P w v
 | .t P => ph = true → P w v
 | .o => True
def FB (l : List FP) (ph : Bool) (w : World) (i : Nat) (v : Value) : Prop := FP.ok ph w v (l.getD i .o)
def FStP (w w' : World) : List FP → Prop
 | [] => True
 | .e _ :: l => FStP w w' l
 | .p P :: l => (∀ v, P w v → P w' v) ∧ FStP w w' l
 | .t _ :: l => FStP w w' l
 | .o :: l => FStP w w' l
theorem fStP : ∀ {l : List FP} {w w' : World}, FStP w w' l → ∀ i v, FB l false w i v → FB l false w' i v
 | [], _, _, _, _, _, _ => trivial
 | .e _ :: _, _, _, _, 0, _, g => g
 | .p _ :: _, _, _, h, 0, v, g => fun e => h.1 v (g e)
 | .t _ :: _, _, _, _, 0, _, _ => fun e => absurd e (by decide)
 | .o :: _, _, _, _, 0, _, _ => trivial
 | .e _ :: l, _, _, h, i + 1, v, g => fStP (l := l) h i v g
 | .p _ :: l, _, _, h, i + 1, v, g => fStP (l := l) h.2 i v g
 | .t _ :: l, _, _, h, i + 1, v, g => fStP (l := l) h i v g
 | .o :: l, _, _, h, i + 1, v, g => fStP (l := l) h i v g
def noT : List FP → Bool
 | [] => true
 | .t _ :: _ => false
 | .e _ :: l | .p _ :: l | .o :: l => noT l
def oneT : List FP → Nat → Bool
 | [], _ => true
 | .t _ :: l, 0 => noT l
 | .t _ :: _, _ + 1 => false
 | .e _ :: l, 0 | .p _ :: l, 0 | .o :: l, 0 => noT l
 | .e _ :: l, i + 1 | .p _ :: l, i + 1 | .o :: l, i + 1 => oneT l i
theorem noT_pass : ∀ {l : List FP}, noT l = true → ∀ {w w' : World} i v, FB l false w i v → FB l true w' i v
 | [], _, _, _, _, _, _ => trivial
 | .e _ :: _, _, _, _, 0, _, g => g
 | .p _ :: _, _, _, _, 0, _, _ => fun e => absurd e (by decide)
 | .o :: _, _, _, _, 0, _, _ => trivial
 | .e _ :: l, h, _, _, i + 1, v, g => noT_pass (l := l) h i v g
 | .p _ :: l, h, _, _, i + 1, v, g => noT_pass (l := l) h i v g
 | .o :: l, h, _, _, i + 1, v, g => noT_pass (l := l) h i v g
theorem fPass : ∀ {l : List FP} {t : Nat}, oneT l t = true → ∀ {w w' : World} i v, i ≠ t → FB l false w i v → FB l true w' i v
 | [], _, _, _, _, _, _, _, _ => trivial
 | .t _ :: _, 0, _, _, _, 0, _, n, _ => absurd rfl n
 | .t _ :: l, 0, h, _, _, i + 1, v, _, g => noT_pass (l := l) h i v g
 | .e _ :: _, _, _, _, _, 0, _, _, g => g
 | .p _ :: _, _, _, _, _, 0, _, _, _ => fun e => absurd e (by decide)
 | .o :: _, _, _, _, _, 0, _, _, _ => trivial
 | .e _ :: l, 0, h, _, _, i + 1, v, _, g => noT_pass (l := l) h i v g
 | .p _ :: l, 0, h, _, _, i + 1, v, _, g => noT_pass (l := l) h i v g
 | .o :: l, 0, h, _, _, i + 1, v, _, g => noT_pass (l := l) h i v g
 | .e _ :: l, t + 1, h, _, _, i + 1, v, n, g => fPass (l := l) (t := t) h i v (fun e => n (by rw [e])) g
 | .p _ :: l, t + 1, h, _, _, i + 1, v, n, g => fPass (l := l) (t := t) h i v (fun e => n (by rw [e])) g
 | .o :: l, t + 1, h, _, _, i + 1, v, n, g => fPass (l := l) (t := t) h i v (fun e => n (by rw [e])) g
end Go.Proofs.YtcmlojigcgihbaaGreat
namespace Go.Proofs.YtcmlojigcgihbaaGreat
open Go.RowKit
def BoxM (w : World) (k : Nat) (c0 c1 c2 c3 c4 c5 c6 : Value) : Prop := w.heap[k]? = some (.cells #[c0, c1, c2, c3, c4, c5, c6] 54 (0, 0))
theorem BoxM.cells {w : World} {k : Nat} {c0 c1 c2 c3 c4 c5 c6 : Value} (h : BoxM w k c0 c1 c2 c3 c4 c5 c6) : w.cell? ⟨k, 0, none⟩ = some c0 ∧ w.cell? ⟨k, 1, none⟩ = some c1 ∧ w.cell? ⟨k, 2, none⟩ = some c2 ∧ w.cell? ⟨k, 3, none⟩ = some c3 ∧ w.cell? ⟨k, 4, none⟩ = some c4 ∧ w.cell? ⟨k, 5, none⟩ = some c5 ∧ w.cell? ⟨k, 6, none⟩ = some c6 :=
 ⟨cell_of_block' h _ rfl, cell_of_block' h _ rfl, cell_of_block' h _ rfl, cell_of_block' h _ rfl, cell_of_block' h _ rfl, cell_of_block' h _ rfl, cell_of_block' h _ rfl⟩
theorem BoxM.lt {w : World} {k : Nat} {c0 c1 c2 c3 c4 c5 c6 : Value} (h : BoxM w k c0 c1 c2 c3 c4 c5 c6) : k < w.heap.size := (Array.getElem?_eq_some_iff.1 h).1
theorem BoxM.on {w w' : World} {k : Nat} {c0 c1 c2 c3 c4 c5 c6 : Value} (h : BoxM w k c0 c1 c2 c3 c4 c5 c6) (hb : Below w.heap.size w w') : BoxM w' k c0 c1 c2 c3 c4 c5 c6 := (hb.block k h.lt).trans h
theorem boxM_new (w : World) (c0 c1 c2 c3 c4 c5 c6 : Value) : BoxM (w.alloc (.cells #[c0, c1, c2, c3, c4, c5, c6] 54)) w.heap.size c0 c1 c2 c3 c4 c5 c6 := alloc_new' _ _
def BoxLi (w : World) (k : Nat) (c0 c1 c2 : Value) : Prop := w.heap[k]? = some (.cells #[c0, c1, c2] 49 (0, 0))
theorem BoxLi.cells {w : World} {k : Nat} {c0 c1 c2 : Value} (h : BoxLi w k c0 c1 c2) : w.cell? ⟨k, 0, none⟩ = some c0 ∧ w.cell? ⟨k, 1, none⟩ = some c1 ∧ w.cell? ⟨k, 2, none⟩ = some c2 :=
 ⟨cell_of_block' h _ rfl, cell_of_block' h _ rfl, cell_of_block' h _ rfl⟩
theorem BoxLi.lt {w : World} {k : Nat} {c0 c1 c2 : Value} (h : BoxLi w k c0 c1 c2) : k < w.heap.size := (Array.getElem?_eq_some_iff.1 h).1
theorem BoxLi.on {w w' : World} {k : Nat} {c0 c1 c2 : Value} (h : BoxLi w k c0 c1 c2) (hb : Below w.heap.size w w') : BoxLi w' k c0 c1 c2 := (hb.block k h.lt).trans h
theorem boxLi_new (w : World) (c0 c1 c2 : Value) : BoxLi (w.alloc (.cells #[c0, c1, c2] 49)) w.heap.size c0 c1 c2 := alloc_new' _ _
def BoxRu (w : World) (k : Nat) (c0 c1 c2 c3 c4 c5 : Value) : Prop := w.heap[k]? = some (.cells #[c0, c1, c2, c3, c4, c5] 47 (0, 0))
theorem BoxRu.cells {w : World} {k : Nat} {c0 c1 c2 c3 c4 c5 : Value} (h : BoxRu w k c0 c1 c2 c3 c4 c5) : w.cell? ⟨k, 0, none⟩ = some c0 ∧ w.cell? ⟨k, 1, none⟩ = some c1 ∧ w.cell? ⟨k, 2, none⟩ = some c2 ∧ w.cell? ⟨k, 3, none⟩ = some c3 ∧ w.cell? ⟨k, 4, none⟩ = some c4 ∧ w.cell? ⟨k, 5, none⟩ = some c5 :=
 ⟨cell_of_block' h _ rfl, cell_of_block' h _ rfl, cell_of_block' h _ rfl, cell_of_block' h _ rfl, cell_of_block' h _ rfl, cell_of_block' h _ rfl⟩
theorem BoxRu.lt {w : World} {k : Nat} {c0 c1 c2 c3 c4 c5 : Value} (h : BoxRu w k c0 c1 c2 c3 c4 c5) : k < w.heap.size := (Array.getElem?_eq_some_iff.1 h).1
theorem BoxRu.on {w w' : World} {k : Nat} {c0 c1 c2 c3 c4 c5 : Value} (h : BoxRu w k c0 c1 c2 c3 c4 c5) (hb : Below w.heap.size w w') : BoxRu w' k c0 c1 c2 c3 c4 c5 := (hb.block k h.lt).trans h
theorem boxRu_new (w : World) (c0 c1 c2 c3 c4 c5 : Value) : BoxRu (w.alloc (.cells #[c0, c1, c2, c3, c4, c5] 47)) w.heap.size c0 c1 c2 c3 c4 c5 := alloc_new' _ _
def BoxDe (w : World) (k : Nat) (c0 c1 : Value) : Prop := w.heap[k]? = some (.cells #[c0, c1] 74 (0, 0))
theorem BoxDe.cells {w : World} {k : Nat} {c0 c1 : Value} (h : BoxDe w k c0 c1) : w.cell? ⟨k, 0, none⟩ = some c0 ∧ w.cell? ⟨k, 1, none⟩ = some c1 :=
 ⟨cell_of_block' h _ rfl, cell_of_block' h _ rfl⟩
theorem BoxDe.lt {w : World} {k : Nat} {c0 c1 : Value} (h : BoxDe w k c0 c1) : k < w.heap.size := (Array.getElem?_eq_some_iff.1 h).1
theorem BoxDe.on {w w' : World} {k : Nat} {c0 c1 : Value} (h : BoxDe w k c0 c1) (hb : Below w.heap.size w w') : BoxDe w' k c0 c1 := (hb.block k h.lt).trans h
theorem boxDe_new (w : World) (c0 c1 : Value) : BoxDe (w.alloc (.cells #[c0, c1] 74)) w.heap.size c0 c1 := alloc_new' _ _
def BoxFa (w : World) (k : Nat) (c0 c1 : Value) : Prop := w.heap[k]? = some (.cells #[c0, c1] 60 (0, 0))
theorem BoxFa.cells {w : World} {k : Nat} {c0 c1 : Value} (h : BoxFa w k c0 c1) : w.cell? ⟨k, 0, none⟩ = some c0 ∧ w.cell? ⟨k, 1, none⟩ = some c1 :=
 ⟨cell_of_block' h _ rfl, cell_of_block' h _ rfl⟩
theorem BoxFa.lt {w : World} {k : Nat} {c0 c1 : Value} (h : BoxFa w k c0 c1) : k < w.heap.size := (Array.getElem?_eq_some_iff.1 h).1
theorem BoxFa.on {w w' : World} {k : Nat} {c0 c1 : Value} (h : BoxFa w k c0 c1) (hb : Below w.heap.size w w') : BoxFa w' k c0 c1 := (hb.block k h.lt).trans h
theorem boxFa_new (w : World) (c0 c1 : Value) : BoxFa (w.alloc (.cells #[c0, c1] 60)) w.heap.size c0 c1 := alloc_new' _ _
def BoxPr (w : World) (k : Nat) (c0 c1 c2 : Value) : Prop := w.heap[k]? = some (.cells #[c0, c1, c2] 28 (0, 0))
theorem BoxPr.cells {w : World} {k : Nat} {c0 c1 c2 : Value} (h : BoxPr w k c0 c1 c2) : w.cell? ⟨k, 0, none⟩ = some c0 ∧ w.cell? ⟨k, 1, none⟩ = some c1 ∧ w.cell? ⟨k, 2, none⟩ = some c2 :=
 ⟨cell_of_block' h _ rfl, cell_of_block' h _ rfl, cell_of_block' h _ rfl⟩
theorem BoxPr.lt {w : World} {k : Nat} {c0 c1 c2 : Value} (h : BoxPr w k c0 c1 c2) : k < w.heap.size := (Array.getElem?_eq_some_iff.1 h).1
theorem BoxPr.on {w w' : World} {k : Nat} {c0 c1 c2 : Value} (h : BoxPr w k c0 c1 c2) (hb : Below w.heap.size w w') : BoxPr w' k c0 c1 c2 := (hb.block k h.lt).trans h
theorem boxPr_new (w : World) (c0 c1 c2 : Value) : BoxPr (w.alloc (.cells #[c0, c1, c2] 28)) w.heap.size c0 c1 c2 := alloc_new' _ _
end Go.Proofs.YtcmlojigcgihbaaGreat
namespace Go.Proofs.YtcmlojigcgihbaaGreat
open Go.RowKit
theorem flat_rep (S : Nat → Prop) (w : World) (k n : Int) (s : ByteArray) (hk : I64 k) (hn : I64 n) (hs : s.size ≤ maxLen) : RepG S w (.mk k n s []) (.int .i64 k) (.int .i64 n) (.string s) (.slice none 0 0) :=
 repG_mk.2 ⟨rfl, rfl, rfl, hk, hn, hs, none, 0, 0, 0, rfl, Nat.le_refl _, by simp, fun h => by omega, fun h => by simp at h, fun i hi => by simp at hi⟩
end Go.Proofs.YtcmlojigcgihbaaGreat
namespace Go.Proofs.YtcmlojigcgihbaaGreat
open Go.RowKit
theorem slg_row {α : Type} {S : Nat → Prop} {w : World} {n bytes : Nat} {R : α → (Nat → Value) → Prop} {l : List α} {b : Nat} {cs : Array Value} {t : TypeId} {fz : Nat × Nat} (hb : w.heap[b]? = some (.cells cs t fz)) (hS : S b) (hsz : cs.size = l.length * n) (hby : l.length * bytes ≤ 140737488355328)
  (hR : ∀ i (h : i < l.length), R l[i] (fun j => cs.getD (i * n + j) undef)) : SlG S w n bytes R l (.slice (some ⟨b, 0, none⟩) l.length l.length) := by
 refine ⟨_, b, 0, l.length, rfl, Nat.le_refl _, hby, fun _ => rfl, fun _ => hS, fun i hi => ⟨_, fun j hj => ?_, hR i hi⟩⟩
 have hlt : i * n + j < cs.size := by
  have : (i + 1) * n ≤ l.length * n := Nat.mul_le_mul_right n hi;rw [Nat.succ_mul] at this; omega
 rw [show 0 + i * n + j = i * n + j by omega];exact cell_of_block' hb _ (by simp [Array.getD, hlt])
theorem slg_nil {α : Type} {S : Nat → Prop} {w : World} {n bytes : Nat} {R : α → (Nat → Value) → Prop} : SlG S w n bytes R [] (.slice none 0 0) :=
 ⟨none, 0, 0, 0, rfl, Nat.le_refl _, by simp, fun h => by omega, fun h => by simp at h, fun i hi => by simp at hi⟩
def zV : V := .mk 0 0 ⟨#[]⟩ []
theorem small64 {n : Int} (h : 0 ≤ n ∧ n ≤ 100) : I64 n := ⟨by omega, by omega⟩
theorem zV_rep (S : Nat → Prop) (w : World) : RepG S w zV (.int .i64 0) (.int .i64 0) (.string ⟨#[]⟩) (.slice none 0 0) := flat_rep S w 0 0 ⟨#[]⟩ (small64 (by omega)) (small64 (by omega)) (by decide)
end Go.Proofs.YtcmlojigcgihbaaGreat
namespace Go.Proofs.YtcmlojigcgihbaaGreat
open Go.RowKit
def pickZ (c n : Int) : Int := (if c < 0 then -(c + 1) else c) % n
theorem pickZ_bd (c n : Int) (h : 0 < n) : 0 ≤ pickZ c n ∧ pickZ c n < n := ⟨Int.emod_nonneg _ (by omega), Int.emod_lt_of_pos _ h⟩
theorem ret_int' {k : IntKind} {a b : Int} (h : a = b) : Ending.returned (.int k a) = .returned (.int k b) := by rw [h]
end Go.Proofs.YtcmlojigcgihbaaGreat
namespace Go.Proofs.YtcmlojigcgihbaaGreat
open Go.RowKit
structure Rw where
 kind : Int
 name : Int
 n0 : Int
 n1 : Int
 n2 : Int
 n3 : Int
def RwOk (x : Rw) : Prop := I64 x.kind ∧ I64 x.name ∧ I64 x.n0 ∧ I64 x.n1 ∧ I64 x.n2 ∧ I64 x.n3
def RepRw (_S : Nat → Prop) (_w : World) (x : Rw) (c : Nat → Value) : Prop :=
 c 0 = .int .i64 x.kind ∧ c 1 = .int .i64 x.name ∧ c 2 = .int .i64 x.n0 ∧ c 3 = .int .i64 x.n1 ∧ c 4 = .int .i64 x.n2 ∧ c 5 = .int .i64 x.n3 ∧ RwOk x
def rwV (x : Rw) : Value := .agg #[.int .i64 x.kind, .int .i64 x.name, .int .i64 x.n0, .int .i64 x.n1, .int .i64 x.n2, .int .i64 x.n3]
def RepRws (S : Nat → Prop) (w : World) (l : List Rw) (v : Value) : Prop := SlG S w 6 48 (RepRw S w) l v
def RepRwss (S : Nat → Prop) (w : World) (l : List (List Rw)) (v : Value) : Prop := SlG S w 1 24 (fun x c => RepRws S w x (c 0)) l v
def decls6 : List De := [⟨⟨#[108, 105, 110, 107]⟩, 3⟩, ⟨⟨#[112]⟩, 2⟩, ⟨⟨#[113]⟩, 2⟩, ⟨⟨#[114]⟩, 1⟩, ⟨⟨#[115]⟩, 3⟩, ⟨⟨#[116]⟩, 2⟩]
def decl6 (i : Nat) : De := decls6.getD i ⟨⟨#[108, 105, 110, 107]⟩, 3⟩
def vName (i : Nat) : ByteArray := ⟨#[[83, 68, 88, 89, 90, 67].getD i 83]⟩
def vTm (i : Nat) : Tm := .mk 1 (vName i) zV []
def vZ (c : Int) : Tm := vTm (pickZ c 6).toNat
def numZ (n : Int) : Tm := .mk 2 ⟨#[]⟩ (.mk 1 n ⟨#[]⟩ []) []
def adrName (i : Nat) : ByteArray := ⟨#[[97, 98, 99, 100].getD i 97]⟩
def adrZ (i : Nat) : Tm := .mk 2 ⟨#[]⟩ (.mk 3 0 (adrName i) []) []
def sumZ (a b : Tm) (s : ByteArray) : Tm := .mk 4 s zV [a, b]
def argZ (k : Int) : Tm :=
 if pickZ k 12 = 9 then numZ (pickZ (k.tdiv 12) 4)
 else if pickZ k 12 = 10 then adrZ (pickZ (k.tdiv 12) 3).toNat
 else if pickZ k 12 = 11 then sumZ (vZ (k.tdiv 12)) (numZ 1) ⟨#[43]⟩
 else vZ k
def declOf (x : Rw) : De := decl6 (pickZ x.name 6).toNat
def numOf (x : Rw) (i : Nat) : Int := [x.n0, x.n1, x.n2, x.n3].getD i 0
def atomTo (x : Rw) (k : Nat) : List Tm := vZ x.n0 :: (List.range (k - 1)).map fun i => argZ (numOf x (i + 1))
def atomZ (x : Rw) : List Tm := atomTo x (declOf x).arity.toNat
def cmp6 (i : Nat) : ByteArray := ⟨([[61, 61], [33, 61], [60], [60, 61], [62], [62, 61]].getD i []).toArray⟩
def litZ (x : Rw) : Li :=
 if pickZ x.kind 8 ≤ 3 then ⟨1, (declOf x).name, atomZ x⟩
 else if pickZ x.kind 8 = 4 then ⟨2, (declOf x).name, atomZ x⟩
 else if pickZ x.kind 8 ≤ 6 then ⟨3, cmp6 (pickZ x.name 6).toNat, [vZ x.n0, if pickZ x.n3 2 = 0 then numZ (pickZ x.n2 4) else vZ x.n1]⟩
 else ⟨4, vName (pickZ x.n0 6).toNat, [sumZ (vZ x.n1) (if pickZ (x.n3.tdiv 2) 2 = 0 then numZ 1 else vZ x.n2) (if pickZ x.n3 2 = 0 then ⟨#[43]⟩ else ⟨#[45]⟩)]⟩
def zRw : Rw := ⟨0, 0, 0, 0, 0, 0⟩
def headRw (l : List Rw) : Rw := match l with
 | [] => zRw
 | x :: _ => x
def bodyZ (l : List Rw) : List Li := if ((l.take 5).drop 1) = [] then [litZ zRw] else ((l.take 5).drop 1).map litZ
def labelZ (n : Int) : ByteArray := ⟨#[114, UInt8.ofNat (97 + (pickZ n 26).toNat)]⟩
def agg6 (i : Nat) : ByteArray := ⟨([[109, 105, 110], [109, 97, 120], [99, 111, 117, 110, 116]].getD i []).toArray⟩
def aggOn (l : List Rw) : Bool := pickZ (headRw l).kind 5 == 4 && (decide (1 < (atomZ (headRw l)).length) && ((atomZ (headRw l)).getD 1 (numZ 0)).kind == 1)
def ruleZ (l : List Rw) (n : Int) : Ru :=
 if aggOn l = true then ⟨labelZ n, (declOf (headRw l)).name, atomZ (headRw l), agg6 (pickZ ((headRw l).kind.tdiv 5) 3).toNat, 1, bodyZ l⟩
 else ⟨labelZ n, (declOf (headRw l)).name, atomZ (headRw l), ⟨#[]⟩, 0, bodyZ l⟩
def factArg (x : Rw) (i : Nat) : V :=
 if i = 0 ∨ (i = 1 ∧ ((declOf x).name = ⟨#[108, 105, 110, 107]⟩ ∨ pickZ (numOf x i) 2 = 0)) then .mk 3 0 (adrName (pickZ ((numOf x i).tdiv 2) 4).toNat) []
 else .mk 1 (pickZ ((numOf x i).tdiv 2) 5) ⟨#[]⟩ []
def factZ (x : Rw) : Fa := ⟨(declOf x).name, (List.range (declOf x).arity.toNat).map (factArg x)⟩
def rulesTo (l : List (List Rw)) (k : Nat) : List Ru := (List.range k).map fun i => ruleZ (l.getD i []) i
def progZ (rules : List (List Rw)) (facts : List Rw) : Pr := ⟨decls6, (facts.take 12).map factZ, rulesTo rules (min rules.length 6)⟩
end Go.Proofs.YtcmlojigcgihbaaGreat
namespace Go.Proofs.YtcmlojigcgihbaaGreat
open Go.RowKit
theorem pick6_any (c n : Int) (w : World) (hc : I64 c) (hn : 1 ≤ n) (hn2 : n ≤ 9223372036854775807) :
  Calls Tryz.prog 27 #[.int .i64 c, .int .i64 n] w fun e w' => e = .returned (.int .i64 (pickZ c n)) ∧ w = w' := by
 obtain ⟨h1, h2⟩ := hc
 by_cases h : c < 0
 ·have HF : Hid (pickZ c n = (-(c + 1)) % n) := by show _ = _; rw [pickZ, if_pos h]
  have h3 : 0 ≤ -(c + 1) := by omega
  have hne : (n == 0) = false := beq_eq_false_iff_ne.2 (by omega);go_enter Tryz.func27, Tryz.ntmps27
  go_wp2_with fail
  go_ret
  refine ⟨?_, rfl⟩;rw [HF.out];refine ret_int' ?_;rw [← Int.neg_tmod, Int.tmod_eq_emod_of_nonneg h3]
 ·have HF : Hid (pickZ c n = c % n) := by show _ = _; rw [pickZ, if_neg h]
  have h3 : 0 ≤ c := by omega
  have hne : (n == 0) = false := beq_eq_false_iff_ne.2 (by omega);go_enter Tryz.func27, Tryz.ntmps27
  go_wp2_with fail
  go_ret
  refine ⟨?_, rfl⟩;rw [HF.out];rfl
end Go.Proofs.YtcmlojigcgihbaaGreat
namespace Go.Proofs.YtcmlojigcgihbaaGreat
open Go.RowKit
end Go.Proofs.YtcmlojigcgihbaaGreat
