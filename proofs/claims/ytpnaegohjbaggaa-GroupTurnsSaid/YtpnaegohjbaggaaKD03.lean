/-
  RegionL, RegionP, SixGrow
-/
import Derived.Test.YtpnaegohjbaggaaKD02
import Derived.Test.YtpnaegohjbaggaaKD01
namespace Go.Proofs.Ytpnaegohjbaggaa
open Go
section
variable {P : Program} {ops : Array Oper} {Q : Exit → Act → World → Prop}
def okOpsL (ops : Array Oper) (n : Nat) : Bool :=
 (List.range ops.size).all fun i => match ops[i]? with
  | none => true
  | some o => o.after.all (fun e => decide (e.on < i)) && (i + 1 == ops.size || ((match o.dst with | some d => decide (d < n) | none => false) &&
   (List.range ops.size).all (fun j => j == i || (match ops[j]? with | some o' => !(o'.dst == o.dst) | none => true)) &&
   (List.range ops.size).any (fun j => match ops[j]? with | some o' => o'.after.any (fun e => Region.binds .any e && e.on == i) | none => false)))
theorem okOpsL.at {n i : Nat} {o : Oper} (h : okOpsL ops n = true) (ho : ops[i]? = some o) : (∀ e ∈ o.after, e.on < i) ∧ (i + 1 < ops.size → (∃ d, o.dst = some d ∧ d < n) ∧ (∀ j o', ops[j]? = some o' → j ≠ i → o'.dst ≠ o.dst) ∧ ∃ (j : Nat) (o' : Oper), ops[j]? = some o' ∧ ∃ e ∈ o'.after, Region.binds .any e = true ∧ e.on = i) := by
 unfold okOpsL at h;rw [List.all_eq_true] at h;have h1 := h i (List.mem_range.2 (Array.getElem?_eq_some_iff.1 ho).1);rw [ho] at h1;simp only [Bool.and_eq_true, Bool.or_eq_true, beq_iff_eq] at h1
 obtain ⟨g3, g⟩ := h1;refine ⟨fun e he => of_decide_eq_true (Array.all_eq_true_iff_forall_mem.1 g3 e he), fun hlt => ?_⟩;rcases g with g | ⟨⟨g2, g4⟩, g5⟩
 ·omega
 refine ⟨?_, ?_, ?_⟩
 ·split at g2
  ·rename_i d hd; exact ⟨d, hd, of_decide_eq_true g2⟩
  ·cases g2
 ·intro j o' hj hne he
  rw [List.all_eq_true] at g4;have h2 := g4 j (List.mem_range.2 (Array.getElem?_eq_some_iff.1 hj).1);rw [hj] at h2;simp [hne, he] at h2
 ·obtain ⟨j, _, hj2⟩ := List.any_eq_true.1 g5
  split at hj2
  ·rename_i o' ho'
   obtain ⟨e, he, hb⟩ := Array.any_eq_true'.1 hj2;simp only [Bool.and_eq_true, beq_iff_eq] at hb
   exact ⟨j, o', ho', e, he, hb.1, hb.2⟩
  ·cases hj2
def StepL (P : Program) (ops : Array Oper) (A : Act) (F : World → Nat → Value → Prop) (G : World → Prop) (Q : Exit → Act → World → Prop) (i : Nat) (o : Oper) : Prop :=
 ∀ (a : Act) (w : World), Off ops.pop A a → G w →
  (∀ (j : Nat) (o' : Oper) (d : Tmp), (o.after.any fun e => Region.binds .any e && e.on == j) = true → ops[j]? = some o' → o'.dst = some d → ∃ v, a.tmps[d]? = some v ∧ F w j v) →
  ∀ K : Act → World → Prop, Shut (∀ v w', G w' → F w' i v → (∀ j u, F w j u → F w' j u) → K (a.put o.dst v) w') → if Region.wanted o (yielded ops a.tmps) = true then Oper.wp P o a w K Q else K (a.put o.dst undef) w
def StepsL (P : Program) (ops : Array Oper) (A : Act) (F : World → Nat → Value → Prop) (G : World → Prop) (Q : Exit → Act → World → Prop) : Nat → List Oper → Prop
 | _, [] => True
 | i, o :: os => StepL P ops A F G Q i o ∧ StepsL P ops A F G Q (i + 1) os
theorem StepsL.at {A : Act} {F : World → Nat → Value → Prop} {G : World → Prop} : ∀ (os : List Oper) (k i : Nat) (o : Oper), StepsL P ops A F G Q k os → os[i]? = some o → StepL P ops A F G Q (k + i) o
 | [], _, _, _, _, h => by simp at h
 | x :: os, k, 0, o, hs, h => by simp at h; subst h; exact hs.1
 | x :: os, k, i + 1, o, hs, h => by
  have := StepsL.at os (k + 1) i o hs.2 (by simpa using h);rw [show k + (i + 1) = k + 1 + i by omega]; exact this
theorem wp_region_factsL {id : Nat} {A : Act} {w : World} (hm : P.follows .mixedOrders = true) (n : Nat) (hn : A.tmps.size = n) (hok : okOpsL ops n = true) (F : World → Nat → Value → Prop) (G : World → Prop) (hG : G w.drew)
  (hsteps : StepsL P ops A F G Q 0 ops.toList.dropLast)
  {o : Oper} (hback : ops.back? = some o) (hlast : ∀ a w, Off ops.pop A a → G w → (∀ (i : Nat) (o : Oper) (d : Tmp), i + 1 < ops.size → ops[i]? = some o → o.dst = some d → ∃ v, a.tmps[d]? = some v ∧ F w i v) → if Region.wanted o (yielded ops a.tmps) = true then Oper.wp P o a w (fun a' w' => Q .normal a' w') Q else Q .normal (a.put o.dst undef) w)
  (hpos : 0 < ops.size) :
  (Code.region id ops true).wp P Q A w := by
 refine wp_region_any hm (wpAny_inv (J := fun listed a w => listed.size = ops.size ∧ ((listed.getD (ops.size - 1) false = false ∧ Off ops.pop A a ∧ G w ∧ (∀ (i : Nat) (o : Oper), ops[i]? = some o → listed.getD i false = true → ∀ e ∈ o.after, Region.binds .any e = true → listed.getD e.on false = true) ∧
   ∀ (i : Nat) (o : Oper) (d : Tmp), ops[i]? = some o → o.dst = some d → listed.getD i false = true → ∃ v, a.tmps[d]? = some v ∧ F w i v) ∨ ((∀ i, i < ops.size → listed.getD i false = true) ∧ Q .normal a w))) ?_ ?_ _ _ _ _ ?_ ?_)
 ·rintro listed a w i ⟨hsz, hJ⟩ hi
  obtain ⟨h1, o, ho, hall⟩ := mem_ready.1 hi;have HBK := hback;have hin := getD_lt h1
  have hlf : listed.getD i false = false := by
   have : i < listed.size := hin;simp [this] at h1 ⊢; exact h1
  rcases hJ with ⟨hl0, hoff, hg, hcl, hf⟩ | ⟨hal, -⟩
  case inr => rw [hal i (by omega)] at hlf; cases hlf
  obtain ⟨kaft, krest⟩ := okOpsL.at hok ho
  by_cases hlt : i + 1 < ops.size
  ·obtain ⟨⟨d, k2, k3⟩, k4, -⟩ := krest hlt
   have hst := StepsL.at ops.toList.dropLast 0 i o hsteps (by rw [List.getElem?_dropLast, if_pos (by simp; omega)]; simpa using ho);rw [Nat.zero_add] at hst;unfold wpOp;rw [ho];simp only
   have key := hst a w hoff hg (fun j o' d' hj ho' hd' => by
    obtain ⟨e, he, hb⟩ := Array.any_eq_true'.1 hj;simp only [Bool.and_eq_true, beq_iff_eq] at hb
    exact hf j o' d' ho' hd' (by rw [← hb.2]; exact hall e he hb.1)) (fun a' w' => (listed.setIfInBounds i true).size = ops.size ∧ (((listed.setIfInBounds i true).getD (ops.size - 1) false = false ∧ Off ops.pop A a' ∧ G w' ∧ (∀ (i' : Nat) (o : Oper), ops[i']? = some o → (listed.setIfInBounds i true).getD i' false = true → ∀ e ∈ o.after, Region.binds .any e = true → (listed.setIfInBounds i true).getD e.on false = true) ∧
     ∀ (j : Nat) (o : Oper) (d : Tmp), ops[j]? = some o → o.dst = some d → (listed.setIfInBounds i true).getD j false = true → ∃ v, a'.tmps[d]? = some v ∧ F w' j v) ∨ ((∀ i', i' < ops.size → (listed.setIfInBounds i true).getD i' false = true) ∧ Q .normal a' w'))) (fun v w' hg' hf' hstay => by
    rw [k2];refine ⟨by rw [Array.size_setIfInBounds]; exact hsz, .inl ⟨by rw [getD_set_ne false (by omega)]; exact hl0, hoff.put (i := i) (o := o) (by rw [Array.getElem?_pop, if_pos (by omega)]; exact ho) k2 v, hg', fun i' o' ho' hl' e he hb => ?_, fun j o' d' ho' hd' hl => ?_⟩⟩
    ·have up : ∀ q, listed.getD q false = true → (listed.setIfInBounds i true).getD q false = true := fun q hq => by
      by_cases e : i = q
      ·subst e; simp [hin]
      ·rw [getD_set_ne false e]; exact hq
     by_cases e' : i' = i
     ·subst e'
      obtain rfl : o' = o := Option.some.inj (ho'.symm.trans ho);exact up _ (hall e he hb)
     ·rw [getD_set_ne false (fun h => e' h.symm)] at hl'
      exact up _ (hcl i' o' ho' hl' e he hb)
    ·by_cases e : j = i
     ·subst e
      obtain rfl : o' = o := Option.some.inj (ho'.symm.trans ho);obtain rfl : d' = d := Option.some.inj (hd'.symm.trans k2);refine ⟨v, ?_, hf'⟩
      show (a.tmps.setIfInBounds d' v)[d']? = _
      rw [Array.getElem?_setIfInBounds, if_pos rfl, if_pos (by rw [hoff.size, hn]; exact k3)]
     ·rw [getD_set_ne false (fun h => e h.symm)] at hl
      obtain ⟨u, hu, hF⟩ := hf j o' d' ho' hd' hl;refine ⟨u, ?_, hstay j u hF⟩;have hne : d ≠ d' := fun h => k4 j o' ho' e (by rw [hd', k2, h])
      show (a.tmps.setIfInBounds d v)[d']? = _
      rw [Array.getElem?_setIfInBounds, if_neg hne]; exact hu)
   split
   ·rename_i hw; rw [if_pos hw] at key; exact .inl key
   ·rename_i hw; rw [if_neg hw] at key; exact key
  ·obtain rfl : i = ops.size - 1 := by have := (Array.getElem?_eq_some_iff.1 ho).1; omega
   have hoe := Option.some.inj (HBK.symm.trans (by rw [Array.back?_eq_getElem?]; exact ho));subst hoe
   have all : ∀ k j, j + k + 1 = ops.size → 0 < k → listed.getD j false = true := by
    intro k
    induction k using Nat.strongRecOn with
    | _ k ih =>
     intro j hj hk;have hoj : ops[j]? = some (ops[j]'(by omega)) := Array.getElem?_eq_getElem _;obtain ⟨-, hr⟩ := okOpsL.at hok hoj;obtain ⟨-, -, j', o', hj', e, he, hb, hon⟩ := hr (by omega);have hlt' : j < j' := by rw [← hon]; exact (okOpsL.at hok hj').1 e he
     have hj'lt := (Array.getElem?_eq_some_iff.1 hj').1
     by_cases hL : j' = ops.size - 1
     ·subst hL
      obtain rfl : o' = o := Option.some.inj (hj'.symm.trans ho);rw [← hon]; exact hall e he hb
     ·have := ih (ops.size - 1 - j') (by omega) j' (by omega) (by omega)
      rw [← hon]; exact hcl j' o' hj' this e he hb
   have key := hlast a w hoff hg (fun i' o' d' hi' ho' hd' => hf i' o' d' ho' hd' (all (ops.size - 1 - i') i' (by omega) (by omega)))
   have fin : ∀ a' w', Q .normal a' w' → (listed.setIfInBounds (ops.size - 1) true).size = ops.size ∧ (((listed.setIfInBounds (ops.size - 1) true).getD (ops.size - 1) false = false ∧ Off ops.pop A a' ∧ G w' ∧ (∀ (i' : Nat) (o : Oper), ops[i']? = some o → (listed.setIfInBounds (ops.size - 1) true).getD i' false = true → ∀ e ∈ o.after, Region.binds .any e = true → (listed.setIfInBounds (ops.size - 1) true).getD e.on false = true) ∧
     ∀ (j : Nat) (o : Oper) (d : Tmp), ops[j]? = some o → o.dst = some d → (listed.setIfInBounds (ops.size - 1) true).getD j false = true → ∃ v, a'.tmps[d]? = some v ∧ F w' j v) ∨ ((∀ i', i' < ops.size → (listed.setIfInBounds (ops.size - 1) true).getD i' false = true) ∧ Q .normal a' w')) := by
    intro a' w' hq;refine ⟨by rw [Array.size_setIfInBounds]; exact hsz, .inr ⟨fun i' hi' => ?_, hq⟩⟩
    by_cases e : ops.size - 1 = i'
    ·subst e; simp [hin]
    ·rw [getD_set_ne false e]; exact all (ops.size - 1 - i') i' (by omega) (by omega)
   have hop : wpOp P ops Q (ops.size - 1) (fun a' w' => Q .normal a' w') a w := by
    unfold wpOp;rw [ho];simp only
    split
    ·rename_i hw; rw [if_pos hw] at key; exact .inl key
    ·rename_i hw; rw [if_neg hw] at key; exact key
   exact wpOp_mono (fun a' w' h => fin a' w' h) hop
 ·rintro listed a w ⟨hsz, hJ⟩ hr
  rcases hJ with ⟨hl0, -⟩ | ⟨-, hq⟩
  case inr => exact hq
  exfalso
  have all : ∀ i, i < ops.size → listed.getD i false = true := by
   intro i
   induction i using Nat.strongRecOn with
   | _ i ih =>
    intro hi
    cases hl : listed.getD i true with
    | true => simpa [hsz, hi] using hl
    | false =>
     have ho : ops[i]? = some ops[i] := Array.getElem?_eq_getElem hi;have : i ∈ Region.ready .any ops listed := mem_ready.2 ⟨hl, ops[i], ho, fun e he _ => ih e.on ((okOpsL.at hok ho).1 e he) (Nat.lt_trans ((okOpsL.at hok ho).1 e he) hi)⟩;rw [hr] at this; cases this
  rw [all (ops.size - 1) (by omega)] at hl0
  cases hl0
 ·exact Nat.le_trans List.countP_le_length (by simp)
 ·exact ⟨by simp, .inl ⟨none_listed _ _, Off.refl _ _, hG, fun i o _ hl => (by rw [none_listed] at hl; cases hl), fun i o d _ _ hl => by rw [none_listed] at hl; cases hl⟩⟩
end
end Go.Proofs.Ytpnaegohjbaggaa
namespace Go.Proofs.Ytpnaegohjbaggaa
open Go
section
variable {P : Program} {ops : Array Oper} {Q : Exit → Act → World → Prop}
def okEarly (ops : Array Oper) (t : Nat) (early : Nat → Bool) : Bool :=
 decide (t + 1 < ops.size) && (List.range ops.size).all fun i => !early i || (decide (i < t) && (List.range ops.size).any fun j => (j == t || early j) && (match ops[j]? with | some o' => o'.after.any (fun e => Region.binds .any e && e.on == i) | none => false))
theorem okEarly.at {t i : Nat} {early : Nat → Bool} (h : okEarly ops t early = true) (hi : i < ops.size) (he : early i = true) : i < t ∧ ∃ (j : Nat) (o' : Oper), (j = t ∨ early j = true) ∧ ops[j]? = some o' ∧ ∃ e ∈ o'.after, Region.binds .any e = true ∧ e.on = i := by
 unfold okEarly at h;simp only [Bool.and_eq_true, List.all_eq_true] at h
 have h1 := h.2 i (List.mem_range.2 hi);rw [he] at h1;simp only [Bool.not_true, Bool.false_or, Bool.and_eq_true, decide_eq_true_eq] at h1
 refine ⟨h1.1, ?_⟩;obtain ⟨j, _, hj2⟩ := List.any_eq_true.1 h1.2;simp only [Bool.and_eq_true, Bool.or_eq_true, beq_iff_eq] at hj2
 obtain ⟨g1, g2⟩ := hj2
 split at g2
 ·rename_i o' ho'
  obtain ⟨e, hee, hb⟩ := Array.any_eq_true'.1 g2;simp only [Bool.and_eq_true, beq_iff_eq] at hb
  exact ⟨j, o', g1, ho', e, hee, hb.1, hb.2⟩
 ·cases g2
def StepP (P : Program) (ops : Array Oper) (A : Act) (F : Bool → World → Nat → Value → Prop) (G : Bool → World → Prop) (Q : Exit → Act → World → Prop) (ph : Bool) (i : Nat) (o : Oper) : Prop :=
 ∀ (a : Act) (w : World), Off ops.pop A a → G ph w →
  (∀ (j : Nat) (o' : Oper) (d : Tmp), (o.after.any fun e => Region.binds .any e && e.on == j) = true → ops[j]? = some o' → o'.dst = some d → ∃ v, a.tmps[d]? = some v ∧ F ph w j v) →
  ∀ K : Act → World → Prop, Shut (∀ v w', G ph w' → F ph w' i v → (∀ j u, F ph w j u → F ph w' j u) → K (a.put o.dst v) w') → if Region.wanted o (yielded ops a.tmps) = true then Oper.wp P o a w K Q else K (a.put o.dst undef) w
def StepT (P : Program) (ops : Array Oper) (A : Act) (F : Bool → World → Nat → Value → Prop) (G : Bool → World → Prop) (Q : Exit → Act → World → Prop) (i : Nat) (o : Oper) : Prop :=
 ∀ (a : Act) (w : World), Off ops.pop A a → G false w →
  (∀ (j : Nat) (o' : Oper) (d : Tmp), (o.after.any fun e => Region.binds .any e && e.on == j) = true → ops[j]? = some o' → o'.dst = some d → ∃ v, a.tmps[d]? = some v ∧ F false w j v) →
  ∀ K : Act → World → Prop, Shut (∀ v w', G true w' → F true w' i v → (∀ j u, j ≠ i → F false w j u → F true w' j u) → K (a.put o.dst v) w') → if Region.wanted o (yielded ops a.tmps) = true then Oper.wp P o a w K Q else K (a.put o.dst undef) w
def StepsP (P : Program) (ops : Array Oper) (A : Act) (F : Bool → World → Nat → Value → Prop) (G : Bool → World → Prop) (Q : Exit → Act → World → Prop) (t : Nat) (early : Nat → Bool) : Nat → List Oper → Prop
 | _, [] => True
 | i, o :: os => (match i == t, early i with
   | true, _ => StepT P ops A F G Q i o
   | false, true => StepP P ops A F G Q false i o
   | false, false => ∀ ph, StepP P ops A F G Q ph i o) ∧ StepsP P ops A F G Q t early (i + 1) os
theorem StepsP.at {A : Act} {F : Bool → World → Nat → Value → Prop} {G : Bool → World → Prop} {t : Nat} {early : Nat → Bool} : ∀ (os : List Oper) (k i : Nat) (o : Oper), StepsP P ops A F G Q t early k os → os[i]? = some o →
  (match k + i == t, early (k + i) with
   | true, _ => StepT P ops A F G Q (k + i) o
   | false, true => StepP P ops A F G Q false (k + i) o
   | false, false => ∀ ph, StepP P ops A F G Q ph (k + i) o)
 | [], _, _, _, _, h => by simp at h
 | x :: os, k, 0, o, hs, h => by simp at h; subst h; exact hs.1
 | x :: os, k, i + 1, o, hs, h => by
  have := StepsP.at os (k + 1) i o hs.2 (by simpa using h);rw [show k + (i + 1) = k + 1 + i by omega]; exact this
theorem wp_region_factsP {id : Nat} {A : Act} {w : World} (hm : P.follows .mixedOrders = true) (n : Nat) (hn : A.tmps.size = n) (hok : okOpsL ops n = true) (t : Nat) (early : Nat → Bool) (het : okEarly ops t early = true) (F : Bool → World → Nat → Value → Prop) (G : Bool → World → Prop) (hG : G false w.drew)
  (hsteps : StepsP P ops A F G Q t early 0 ops.toList.dropLast)
  {o : Oper} (hback : ops.back? = some o) (hlast : ∀ a w, Off ops.pop A a → G true w → (∀ (i : Nat) (o : Oper) (d : Tmp), i + 1 < ops.size → ops[i]? = some o → o.dst = some d → ∃ v, a.tmps[d]? = some v ∧ F true w i v) → if Region.wanted o (yielded ops a.tmps) = true then Oper.wp P o a w (fun a' w' => Q .normal a' w') Q else Q .normal (a.put o.dst undef) w) :
  (Code.region id ops true).wp P Q A w := by
 have htl : t + 1 < ops.size := by unfold okEarly at het; simp only [Bool.and_eq_true, decide_eq_true_eq] at het; exact het.1
 refine wp_region_any hm (wpAny_inv (J := fun listed a w => listed.size = ops.size ∧ ((listed.getD (ops.size - 1) false = false ∧ Off ops.pop A a ∧ G (listed.getD t false) w ∧ (∀ (i : Nat) (o : Oper), ops[i]? = some o → listed.getD i false = true → ∀ e ∈ o.after, Region.binds .any e = true → listed.getD e.on false = true) ∧
   ∀ (i : Nat) (o : Oper) (d : Tmp), ops[i]? = some o → o.dst = some d → listed.getD i false = true → ∃ v, a.tmps[d]? = some v ∧ F (listed.getD t false) w i v) ∨ ((∀ i, i < ops.size → listed.getD i false = true) ∧ Q .normal a w))) ?_ ?_ _ _ _ _ ?_ ?_)
 ·rintro listed a w i ⟨hsz, hJ⟩ hi
  obtain ⟨h1, o, ho, hall⟩ := mem_ready.1 hi;have HBK := hback;have hin := getD_lt h1
  have hlf : listed.getD i false = false := by
   have : i < listed.size := hin;simp [this] at h1 ⊢; exact h1
  rcases hJ with ⟨hl0, hoff, hg, hcl, hf⟩ | ⟨hal, -⟩
  case inr => rw [hal i (by omega)] at hlf; cases hlf
  obtain ⟨kaft, krest⟩ := okOpsL.at hok ho
  by_cases hlt : i + 1 < ops.size
  ·obtain ⟨⟨d, k2, k3⟩, k4, -⟩ := krest hlt
   have hst := StepsP.at ops.toList.dropLast 0 i o hsteps (by rw [List.getElem?_dropLast, if_pos (by simp; omega)]; simpa using ho);rw [Nat.zero_add] at hst
   have up : ∀ q, listed.getD q false = true → (listed.setIfInBounds i true).getD q false = true := fun q hq => by
    by_cases e : i = q
    ·subst e; simp [hin]
    ·rw [getD_set_ne false e]; exact hq
   have closed : ∀ (i' : Nat) (o' : Oper), ops[i']? = some o' → (listed.setIfInBounds i true).getD i' false = true → ∀ e ∈ o'.after, Region.binds .any e = true → (listed.setIfInBounds i true).getD e.on false = true := fun i' o' ho' hl' e he hb => by
    by_cases e' : i' = i
    ·subst e'
     obtain rfl : o' = o := Option.some.inj (ho'.symm.trans ho);exact up _ (hall e he hb)
    ·rw [getD_set_ne false (fun h => e' h.symm)] at hl'
     exact up _ (hcl i' o' ho' hl' e he hb)
   have nl : (listed.setIfInBounds i true).getD (ops.size - 1) false = false := by rw [getD_set_ne false (by omega)]; exact hl0
   have dep : ∀ ph, ph = listed.getD t false → (∀ (j : Nat) (o' : Oper) (d : Tmp), (o.after.any fun e => Region.binds .any e && e.on == j) = true → ops[j]? = some o' → o'.dst = some d → ∃ v, a.tmps[d]? = some v ∧ F ph w j v) := fun ph hph j o' d' hj ho' hd' => by
    obtain ⟨e, he, hb⟩ := Array.any_eq_true'.1 hj;simp only [Bool.and_eq_true, beq_iff_eq] at hb
    rw [hph];exact hf j o' d' ho' hd' (by rw [← hb.2]; exact hall e he hb.1)
   have facts : ∀ (ph ph' : Bool) (v : Value) (w' : World), ph = listed.getD t false → F ph' w' i v → (∀ j u, j ≠ i → F ph w j u → F ph' w' j u) → ∀ (j : Nat) (o' : Oper) (d' : Tmp), ops[j]? = some o' → o'.dst = some d' → (listed.setIfInBounds i true).getD j false = true → ∃ u, (a.put o.dst v).tmps[d']? = some u ∧ F ph' w' j u := fun ph ph' v w' hph hf' hstay j o' d' ho' hd' hl => by
    rw [k2]
    by_cases e : j = i
    ·subst e
     obtain rfl : o' = o := Option.some.inj (ho'.symm.trans ho);obtain rfl : d' = d := Option.some.inj (hd'.symm.trans k2);refine ⟨v, ?_, hf'⟩
     show (a.tmps.setIfInBounds d' v)[d']? = _
     rw [Array.getElem?_setIfInBounds, if_pos rfl, if_pos (by rw [hoff.size, hn]; exact k3)]
    ·rw [getD_set_ne false (fun h => e h.symm)] at hl
     obtain ⟨u, hu, hF⟩ := hf j o' d' ho' hd' hl;rw [← hph] at hF;refine ⟨u, ?_, hstay j u e hF⟩;have hne : d ≠ d' := fun h => k4 j o' ho' e (by rw [hd', k2, h])
     show (a.tmps.setIfInBounds d v)[d']? = _
     rw [Array.getElem?_setIfInBounds, if_neg hne]; exact hu
   have offs : ∀ v, Off ops.pop A (a.put o.dst v) := fun v => by rw [k2]; exact hoff.put (i := i) (o := o) (by rw [Array.getElem?_pop, if_pos (by omega)]; exact ho) k2 v
   have fin : ∀ (K : Act → World → Prop), (if Region.wanted o (yielded ops a.tmps) = true then Oper.wp P o a w K Q else K (a.put o.dst undef) w) → (∀ a' w', K a' w' → (listed.setIfInBounds i true).size = ops.size ∧ (((listed.setIfInBounds i true).getD (ops.size - 1) false = false ∧ Off ops.pop A a' ∧ G ((listed.setIfInBounds i true).getD t false) w' ∧ (∀ (i' : Nat) (o : Oper), ops[i']? = some o → (listed.setIfInBounds i true).getD i' false = true → ∀ e ∈ o.after, Region.binds .any e = true → (listed.setIfInBounds i true).getD e.on false = true) ∧
     ∀ (j : Nat) (o : Oper) (d : Tmp), ops[j]? = some o → o.dst = some d → (listed.setIfInBounds i true).getD j false = true → ∃ v, a'.tmps[d]? = some v ∧ F ((listed.setIfInBounds i true).getD t false) w' j v) ∨ ((∀ i', i' < ops.size → (listed.setIfInBounds i true).getD i' false = true) ∧ Q .normal a' w'))) → wpOp P ops Q i (fun a' w' => (listed.setIfInBounds i true).size = ops.size ∧ (((listed.setIfInBounds i true).getD (ops.size - 1) false = false ∧ Off ops.pop A a' ∧ G ((listed.setIfInBounds i true).getD t false) w' ∧ (∀ (i' : Nat) (o : Oper), ops[i']? = some o → (listed.setIfInBounds i true).getD i' false = true → ∀ e ∈ o.after, Region.binds .any e = true → (listed.setIfInBounds i true).getD e.on false = true) ∧
     ∀ (j : Nat) (o : Oper) (d : Tmp), ops[j]? = some o → o.dst = some d → (listed.setIfInBounds i true).getD j false = true → ∃ v, a'.tmps[d]? = some v ∧ F ((listed.setIfInBounds i true).getD t false) w' j v) ∨ ((∀ i', i' < ops.size → (listed.setIfInBounds i true).getD i' false = true) ∧ Q .normal a' w'))) a w := by
    intro K key hK;refine wpOp_mono (fun a' w' h => hK a' w' h) ?_;unfold wpOp;rw [ho];simp only
    split
    ·rename_i hw; rw [if_pos hw] at key; exact .inl key
    ·rename_i hw; rw [if_neg hw] at key; exact key
   by_cases hit : i = t
   ·subst hit
    simp only [beq_self_eq_true] at hst
    have hph : listed.getD i false = false := hlf;have hnew : (listed.setIfInBounds i true).getD i false = true := by simp [hin]
    rw [hph] at hg;refine fin (fun a' w' => ∃ v, a' = a.put o.dst v ∧ G true w' ∧ F true w' i v ∧ ∀ j u, j ≠ i → F false w j u → F true w' j u) (hst a w hoff hg (dep false hph.symm) _ fun v w' g1 g2 g3 => ⟨v, rfl, g1, g2, g3⟩) ?_;rintro a' w' ⟨v, rfl, g1, g2, g3⟩;refine ⟨by rw [Array.size_setIfInBounds]; exact hsz, .inl ⟨nl, offs v, by rw [hnew]; exact g1, closed, ?_⟩⟩;rw [hnew];exact facts false true v w' hph.symm g2 g3
   ·have hnew : (listed.setIfInBounds i true).getD t false = listed.getD t false := getD_set_ne false hit
    have hbeq : (i == t) = false := by simpa using hit
    rw [hbeq] at hst
    -- what t hangs on has been, once t has
    have early_done : listed.getD t false = true → ∀ k q, q + k = t → 0 < k → early q = true → listed.getD q false = true := by
     intro hlt' k
     induction k using Nat.strongRecOn with
     | _ k ih =>
      intro q hq hk he;obtain ⟨h2, j, o', hj, ho', e, hee, hb, hon⟩ := okEarly.at het (i := q) (by omega) he;have hqj : q < j := by rw [← hon]; exact (okOpsL.at hok ho').1 e hee
      have hjl : listed.getD j false = true := by
       rcases hj with rfl | hj
       ·exact hlt'
       ·have hjt := (okEarly.at het (i := j) (Array.getElem?_eq_some_iff.1 ho').1 hj).1
        exact ih (t - j) (by omega) j (by omega) (by omega) hj
      rw [← hon]; exact hcl j o' ho' hjl e hee hb
    cases he : early i with
    | true =>
     rw [he] at hst;simp only at hst
     have hph : listed.getD t false = false := by
      cases hq : listed.getD t false with
      | false => rfl
      | true =>
       have := early_done hq (t - i) i (by have := (okEarly.at het (by omega) he).1; omega) (by have := (okEarly.at het (by omega) he).1; omega) he;rw [hlf] at this; cases this
     rw [hph] at hg hnew;refine fin (fun a' w' => ∃ v, a' = a.put o.dst v ∧ G false w' ∧ F false w' i v ∧ ∀ j u, F false w j u → F false w' j u) (hst a w hoff hg (dep false hph.symm) _ fun v w' g1 g2 g3 => ⟨v, rfl, g1, g2, g3⟩) ?_;rintro a' w' ⟨v, rfl, g1, g2, g3⟩;refine ⟨by rw [Array.size_setIfInBounds]; exact hsz, .inl ⟨nl, offs v, by rw [hnew]; exact g1, closed, ?_⟩⟩;rw [hnew];exact facts false false v w' hph.symm g2 (fun j u _ h => g3 j u h)
    | false =>
     rw [he] at hst;simp only at hst
     refine fin (fun a' w' => ∃ v, a' = a.put o.dst v ∧ G (listed.getD t false) w' ∧ F (listed.getD t false) w' i v ∧ ∀ j u, F (listed.getD t false) w j u → F (listed.getD t false) w' j u) (hst (listed.getD t false) a w hoff hg (dep _ rfl) _ fun v w' g1 g2 g3 => ⟨v, rfl, g1, g2, g3⟩) ?_;rintro a' w' ⟨v, rfl, g1, g2, g3⟩;refine ⟨by rw [Array.size_setIfInBounds]; exact hsz, .inl ⟨nl, offs v, by rw [hnew]; exact g1, closed, ?_⟩⟩;rw [hnew];exact facts _ _ v w' rfl g2 (fun j u _ h => g3 j u h)
  ·obtain rfl : i = ops.size - 1 := by have := (Array.getElem?_eq_some_iff.1 ho).1; omega
   have hoe := Option.some.inj (HBK.symm.trans (by rw [Array.back?_eq_getElem?]; exact ho));subst hoe
   have all : ∀ k j, j + k + 1 = ops.size → 0 < k → listed.getD j false = true := by
    intro k
    induction k using Nat.strongRecOn with
    | _ k ih =>
     intro j hj hk;have hoj : ops[j]? = some (ops[j]'(by omega)) := Array.getElem?_eq_getElem _;obtain ⟨-, hr⟩ := okOpsL.at hok hoj;obtain ⟨-, -, j', o', hj', e, he, hb, hon⟩ := hr (by omega);have hlt' : j < j' := by rw [← hon]; exact (okOpsL.at hok hj').1 e he
     have hj'lt := (Array.getElem?_eq_some_iff.1 hj').1
     by_cases hL : j' = ops.size - 1
     ·subst hL
      obtain rfl := Option.some.inj (hj'.symm.trans ho);rw [← hon]; exact hall e he hb
     ·have := ih (ops.size - 1 - j') (by omega) j' (by omega) (by omega)
      rw [← hon]; exact hcl j' o' hj' this e he hb
   have ht1 : listed.getD t false = true := all (ops.size - 1 - t) t (by omega) (by omega);rw [ht1] at hg hf;have key := hlast a w hoff hg (fun i' o' d' hi' ho' hd' => hf i' o' d' ho' hd' (all (ops.size - 1 - i') i' (by omega) (by omega)))
   have hop : wpOp P ops Q (ops.size - 1) (fun a' w' => Q .normal a' w') a w := by
    unfold wpOp;rw [ho];simp only
    split
    ·rename_i hw; rw [if_pos hw] at key; exact .inl key
    ·rename_i hw; rw [if_neg hw] at key; exact key
   refine wpOp_mono (fun a' w' hq => ⟨by rw [Array.size_setIfInBounds]; exact hsz, .inr ⟨fun i' hi' => ?_, hq⟩⟩) hop
   by_cases e : ops.size - 1 = i'
   ·subst e; simp [hin]
   ·rw [getD_set_ne false e]; exact all (ops.size - 1 - i') i' (by omega) (by omega)
 ·rintro listed a w ⟨hsz, hJ⟩ hr
  rcases hJ with ⟨hl0, -⟩ | ⟨-, hq⟩
  case inr => exact hq
  exfalso
  have all : ∀ i, i < ops.size → listed.getD i false = true := by
   intro i
   induction i using Nat.strongRecOn with
   | _ i ih =>
    intro hi
    cases hl : listed.getD i true with
    | true => simpa [hsz, hi] using hl
    | false =>
     have ho : ops[i]? = some ops[i] := Array.getElem?_eq_getElem hi;have : i ∈ Region.ready .any ops listed := mem_ready.2 ⟨hl, ops[i], ho, fun e he _ => ih e.on ((okOpsL.at hok ho).1 e he) (Nat.lt_trans ((okOpsL.at hok ho).1 e he) hi)⟩;rw [hr] at this; cases this
  rw [all (ops.size - 1) (by omega)] at hl0
  cases hl0
 ·exact Nat.le_trans List.countP_le_length (by simp)
 ·exact ⟨by simp, .inl ⟨none_listed _ _, Off.refl _ _, by rw [none_listed]; exact hG, fun i o _ hl => (by rw [none_listed] at hl; cases hl), fun i o d _ _ hl => by rw [none_listed] at hl; cases hl⟩⟩
end
end Go.Proofs.Ytpnaegohjbaggaa
namespace Go.Proofs.Ytpnaegohjbaggaa
open Go.RowKit
structure Aft (w : World) (B : Nat) (lv : Value) (w' : World) : Prop where
 below : Below B w w'
 block : ∀ k, k < w.heap.size → lv.ownBlock ≠ some k → w'.heap[k]? = w.heap[k]?
 size : w.heap.size ≤ w'.heap.size
theorem Aft.of {α : Type} {K : Kd α} {S : Nat → Prop} {w w1 w' : World} {B : Nat} {L : List α} {lv : Value} (ho : OwnK K S w B L lv) (hB : B ≤ w.heap.size) (hg : Below w.heap.size w w1) (h : w1.grownBy w' lv.ownBlock) : Aft w B lv w' := by
 have h1 := hg.size;have h2 := h.size;refine ⟨⟨h.os.trans hg.os, h.tape.trans hg.tape, h.output.trans hg.output, by omega, fun k hk => ?_⟩, fun k hk hne => ?_, by omega⟩
 ·exact (h.block k (by omega) (fun e => by have := (OwnK.lies ho k e.symm).1; omega)).trans (hg.block k (by omega))
 ·exact (h.block k (by omega) (fun e => hne e.symm)).trans (hg.block k hk)
structure But (bo B : Nat) (w w' : World) : Prop where
 os : w'.os = w.os
 tape : w'.tape = w.tape
 output : w'.output = w.output
 size : w.heap.size ≤ w'.heap.size
 block : ∀ k, k < B → k ≠ bo → w'.heap[k]? = w.heap[k]?
theorem But.refl (bo B : Nat) (w : World) : But bo B w w := ⟨rfl, rfl, rfl, Nat.le_refl _, fun _ _ _ => rfl⟩
theorem But.step {bo B B' : Nat} {w w1 w' : World} (h : But bo B w w1) (hB : B ≤ B') (hb : Below B' w1 w') : But bo B w w' :=
 ⟨hb.os.trans h.os, hb.tape.trans h.tape, hb.output.trans h.output, Nat.le_trans h.size hb.size, fun k hk hne => (hb.block k (by omega)).trans (h.block k hk hne)⟩
theorem But.set {bo B : Nat} {w w1 : World} (h : But bo B w w1) (i : Nat) (v : Value) : But bo B w (w1.setCell ⟨bo, i, none⟩ v) := by
 have hb : Below bo w1 (w1.setCell ⟨bo, i, none⟩ v) := (Below.refl bo w1).setCell (p := ⟨bo, i, none⟩) (Nat.le_refl _) v;exact ⟨hb.os.trans h.os, hb.tape.trans h.tape, hb.output.trans h.output, Nat.le_trans h.size hb.size, fun k hk hne => (Below.heap_setCell _ _ _ _ hne).trans (h.block k hk hne)⟩
theorem But.below {bo B B0 : Nat} {w w' : World} (h : But bo B w w') (h1 : B0 ≤ B) (h2 : B0 ≤ bo) : Below B0 w w' :=
 ⟨h.os, h.tape, h.output, h.size, fun k hk => h.block k (by omega) (by omega)⟩
def RowOf (B : Nat) (o : Obj) (w : World) (v : Value) : Prop := ∃ b, v = .slice (some ⟨b, 0, none⟩) 1 1 ∧ w.heap[b]? = some o ∧ B ≤ b
theorem RowOf.stay {B : Nat} {o : Obj} {w w' : World} {v : Value} (hb : Below w.heap.size w w') (h : RowOf B o w v) : RowOf B o w' v := by
 obtain ⟨b, e, h1, h2⟩ := h;exact ⟨b, e, (hb.block b (Array.getElem?_eq_some_iff.1 h1).1).trans h1, h2⟩
theorem RowOf.new {B : Nat} {w : World} {cs : Array Value} {t : TypeId} (hB : B ≤ w.heap.size) : RowOf B (.cells cs t (0, 0)) (w.alloc (.cells cs t)) (.slice (some ⟨w.heap.size, 0, none⟩) 1 1) :=
 ⟨_, rfl, alloc_new' w _, hB⟩
def at4v (c0 c1 c2 c3 : Value) : Nat → Value
 | 0 => c0 | 1 => c1 | 2 => c2 | _ => c3
theorem measure_up {n k : Nat} (h : k < n) (hn : n ≤ 1000) : n - (intOf (.int .i64 (wrap64 ((k : Int) + 1)))).toNat < n - (intOf (.int .i64 (k : Int))).toNat := by
 have h2 : wrap64 ((k : Int) + 1) = (k : Int) + 1 := by unfold wrap64; omega
 rw [h2];simp only [intOf]
 omega
end Go.Proofs.Ytpnaegohjbaggaa
