/-
  RegionG, RegionL, SixKit
-/
import Derived.Test.YtcmlojigcgihbaaGreatKE05
namespace Go.Proofs.YtcmlojigcgihbaaGreat
open Go
section
variable {P : Program} {ops : Array Oper} {Q : Exit → Act → World → Prop} {md : Region.Mode}
def okOpsG (ops : Array Oper) (n : Nat) : Bool :=
 (List.range ops.size).all fun i => match ops[i]? with
  | none => true
  | some o => (match o.dst with | some d => decide (d < n) | none => false) && o.after.all (fun e => decide (e.on < i)) &&
   (List.range ops.size).all fun j => j == i || (match ops[j]? with | some o' => !(o'.dst == o.dst) | none => true)
theorem okOpsG.at {n i : Nat} {o : Oper} (h : okOpsG ops n = true) (ho : ops[i]? = some o) : (∃ d, o.dst = some d ∧ d < n) ∧ (∀ e ∈ o.after, e.on < i) ∧ ∀ j o', ops[j]? = some o' → j ≠ i → o'.dst ≠ o.dst := by
 unfold okOpsG at h;rw [List.all_eq_true] at h;have h1 := h i (List.mem_range.2 (Array.getElem?_eq_some_iff.1 ho).1);rw [ho] at h1;simp only [Bool.and_eq_true] at h1
 obtain ⟨⟨g2, g3⟩, g4⟩ := h1;refine ⟨?_, ?_, ?_⟩
 ·split at g2
  ·rename_i d hd; exact ⟨d, hd, of_decide_eq_true g2⟩
  ·cases g2
 ·intro e he
  exact of_decide_eq_true (Array.all_eq_true_iff_forall_mem.1 g3 e he)
 ·intro j o' hj hne he
  rw [List.all_eq_true] at g4;have h2 := g4 j (List.mem_range.2 (Array.getElem?_eq_some_iff.1 hj).1);rw [hj] at h2;simp [hne, he] at h2
def StepG (P : Program) (md : Region.Mode) (ops : Array Oper) (A : Act) (F : World → Nat → Value → Prop) (G : World → Prop) (Q : Exit → Act → World → Prop) (i : Nat) (o : Oper) : Prop :=
 ∀ (a : Act) (w : World), Off ops A a → G w →
  (∀ (j : Nat) (o' : Oper) (d : Tmp), (o.after.any fun e => Region.binds md e && e.on == j) = true → ops[j]? = some o' → o'.dst = some d → ∃ v, a.tmps[d]? = some v ∧ F w j v) →
  ∀ K : Act → World → Prop, Shut (∀ v w', G w' → F w' i v → (∀ j u, F w j u → F w' j u) → K (a.put o.dst v) w') → if Region.wanted o (yielded ops a.tmps) = true then Oper.wp P o a w K Q else K (a.put o.dst undef) w
def StepsG (P : Program) (md : Region.Mode) (ops : Array Oper) (A : Act) (F : World → Nat → Value → Prop) (G : World → Prop) (Q : Exit → Act → World → Prop) : Nat → List Oper → Prop
 | _, [] => True
 | i, o :: os => StepG P md ops A F G Q i o ∧ StepsG P md ops A F G Q (i + 1) os
theorem StepsG.at {A : Act} {F : World → Nat → Value → Prop} {G : World → Prop} : ∀ (os : List Oper) (k i : Nat) (o : Oper), StepsG P md ops A F G Q k os → os[i]? = some o → StepG P md ops A F G Q (k + i) o
 | [], _, _, _, _, h => by simp at h
 | x :: os, k, 0, o, hs, h => by simp at h; subst h; exact hs.1
 | x :: os, k, i + 1, o, hs, h => by
  have := StepsG.at os (k + 1) i o hs.2 (by simpa using h);rw [show k + (i + 1) = k + 1 + i by omega]; exact this
theorem wp_region_factsG {id : Nat} {A : Act} {w : World} (hm : P.follows .mixedOrders = true) (n : Nat) (hn : A.tmps.size = n) (hok : okOpsG ops n = true) (F : World → Nat → Value → Prop) (G : World → Prop) (hG : G w.drew)
  (hsteps : StepsG P .any ops A F G Q 0 ops.toList)
  (hend : ∀ a w, Off ops A a → G w → (∀ (i : Nat) (o : Oper) (d : Tmp), ops[i]? = some o → o.dst = some d → ∃ v, a.tmps[d]? = some v ∧ F w i v) → Q .normal a w) :
  (Code.region id ops true).wp P Q A w := by
 refine wp_region_any hm (wpAny_inv (J := fun listed a w => listed.size = ops.size ∧ Off ops A a ∧ G w ∧ ∀ (i : Nat) (o : Oper) (d : Tmp), ops[i]? = some o → o.dst = some d → listed.getD i false = true → ∃ v, a.tmps[d]? = some v ∧ F w i v) ?_ ?_ _ _ _ _ ?_ ?_)
 ·rintro listed a w i ⟨hsz, hoff, hg, hf⟩ hi
  obtain ⟨h1, o, ho, hall⟩ := mem_ready.1 hi;obtain ⟨⟨d, k2, k3⟩, -, k4⟩ := okOpsG.at hok ho;have hin := getD_lt h1;have hst := StepsG.at ops.toList 0 i o hsteps (by simpa using ho);rw [Nat.zero_add] at hst;unfold wpOp;rw [ho];simp only
  have key := hst a w hoff hg (fun j o' d' hj ho' hd' => by
   obtain ⟨e, he, hb⟩ := Array.any_eq_true'.1 hj;simp only [Bool.and_eq_true, beq_iff_eq] at hb
   exact hf j o' d' ho' hd' (by rw [← hb.2]; exact hall e he hb.1)) (fun a' w' => (listed.setIfInBounds i true).size = ops.size ∧ Off ops A a' ∧ G w' ∧ ∀ (j : Nat) (o : Oper) (d : Tmp), ops[j]? = some o → o.dst = some d → (listed.setIfInBounds i true).getD j false = true → ∃ v, a'.tmps[d]? = some v ∧ F w' j v) (fun v w' hg' hf' hstay => by
   rw [k2];refine ⟨by rw [Array.size_setIfInBounds]; exact hsz, hoff.put ho k2 v, hg', fun j o' d' ho' hd' hl => ?_⟩
   by_cases e : j = i
   ·subst e
    obtain rfl : o' = o := Option.some.inj (ho'.symm.trans ho);obtain rfl : d' = d := Option.some.inj (hd'.symm.trans k2);refine ⟨v, ?_, hf'⟩
    show (a.tmps.setIfInBounds d' v)[d']? = _
    rw [Array.getElem?_setIfInBounds, if_pos rfl, if_pos (by rw [hoff.size, hn]; exact k3)]
   ·rw [getD_set_ne false (fun h => e h.symm)] at hl
    obtain ⟨u, hu, hF⟩ := hf j o' d' ho' hd' hl;refine ⟨u, ?_, hstay j u hF⟩;have hne : d ≠ d' := fun h => k4 j o' ho' e (by rw [hd', k2, h])
    show (a.tmps.setIfInBounds d v)[d']? = _
    rw [Array.getElem?_setIfInBounds, if_neg hne]; exact hu)
  split
  ·rename_i hw; rw [if_pos hw] at key; exact .inl key
  ·rename_i hw; rw [if_neg hw] at key; exact key
 ·rintro listed a w ⟨hsz, hoff, hg, hf⟩ hr
  refine hend a w hoff hg fun i o d ho hd => hf i o d ho hd ?_
  have all : ∀ i, i < ops.size → listed.getD i false = true := by
   intro i
   induction i using Nat.strongRecOn with
   | _ i ih =>
    intro hi
    cases hl : listed.getD i true with
    | true => simpa [hsz, hi] using hl
    | false =>
     have ho : ops[i]? = some ops[i] := Array.getElem?_eq_getElem hi;have : i ∈ Region.ready .any ops listed := mem_ready.2 ⟨hl, ops[i], ho, fun e he _ => ih e.on ((okOpsG.at hok ho).2.1 e he) (Nat.lt_trans ((okOpsG.at hok ho).2.1 e he) hi)⟩;rw [hr] at this; cases this
  exact all i (Array.getElem?_eq_some_iff.1 ho).1
 ·exact Nat.le_trans List.countP_le_length (by simp)
 ·exact ⟨by simp, Off.refl _ _, hG, fun i o d _ _ hl => by rw [none_listed] at hl; cases hl⟩
theorem off_at {b a : Act} (h : Off ops b a) (k : Nat) {v : Value} (hd : (ops.toList.all fun o => o.dst != some k) = true) (hv : b.tmps[k]? = some v) : a.tmps[k]? = some v :=
 (h.off k fun i o ho he => by
  rw [List.all_eq_true] at hd;have := hd o (by rw [Array.mem_toList_iff]; exact Array.mem_of_getElem? ho)
  rw [he] at this; simp at this).trans hv
end
end Go.Proofs.YtcmlojigcgihbaaGreat
namespace Go.Proofs.YtcmlojigcgihbaaGreat
open Go
section
variable {P : Program} {ops : Array Oper} {Q : Exit → Act → World → Prop}
def okOpsL (ops : Array Oper) (n : Nat) : Bool :=
 (List.range ops.size).all fun i => match ops[i]? with
  | none => true
  | some o => o.after.all (fun e => decide (e.on < i)) && (i + 1 == ops.size || ((match o.dst with | some d => decide (d < n) | none => false) &&
   (List.range ops.size).all (fun j => j == i || (match ops[j]? with | some o' => !(o'.dst == o.dst) | none => true)) &&
   (List.range ops.size).any (fun j => match ops[j]? with | some o' => o'.after.any (fun e => Region.binds .any e && e.on == i) | none => false)))
theorem okOpsL.at {n i : Nat} {o : Oper} (h : okOpsL ops n = true) (ho : ops[i]? = some o) : (∀ e ∈ o.after, e.on < i) ∧ (i + 1 < ops.size → (∃ d, o.dst = some d ∧ d < n) ∧ (∀ j o', ops[j]? = some o' → j ≠ i → o'.dst ≠ o.dst) ∧ ∃ (j : Nat) (o' : Oper), ops[j]? = some o' ∧ ∃ e ∈ o'.after, Region.binds .any e = true ∧ e.on = i) := by
 unfold okOpsL at h;rw [List.all_eq_true] at h;have h1 := h i (List.mem_range.2 (Array.getElem?_eq_some_iff.1 ho).1);rw [ho] at h1;simp only [Bool.and_eq_true, Bool.or_eq_true, beq_iff_eq] at h1
 obtain ⟨g3, g⟩ := h1;refine ⟨fun e he => of_decide_eq_true (Array.all_eq_true_iff_forall_mem.1 g3 e he), fun hlt => ?_⟩;rcases g with g | ⟨⟨g2, g4⟩, g5⟩
 ·omega
 refine ⟨?_, ?_, ?_⟩
 ·split at g2
  ·rename_i d hd; exact ⟨d, hd, of_decide_eq_true g2⟩
  ·cases g2
 ·intro j o' hj hne he
  rw [List.all_eq_true] at g4;have h2 := g4 j (List.mem_range.2 (Array.getElem?_eq_some_iff.1 hj).1);rw [hj] at h2;simp [hne, he] at h2
 ·obtain ⟨j, _, hj2⟩ := List.any_eq_true.1 g5
  split at hj2
  ·rename_i o' ho'
   obtain ⟨e, he, hb⟩ := Array.any_eq_true'.1 hj2;simp only [Bool.and_eq_true, beq_iff_eq] at hb
   exact ⟨j, o', ho', e, he, hb.1, hb.2⟩
  ·cases hj2
def StepL (P : Program) (ops : Array Oper) (A : Act) (F : World → Nat → Value → Prop) (G : World → Prop) (Q : Exit → Act → World → Prop) (i : Nat) (o : Oper) : Prop :=
 ∀ (a : Act) (w : World), Off ops.pop A a → G w →
  (∀ (j : Nat) (o' : Oper) (d : Tmp), (o.after.any fun e => Region.binds .any e && e.on == j) = true → ops[j]? = some o' → o'.dst = some d → ∃ v, a.tmps[d]? = some v ∧ F w j v) →
  ∀ K : Act → World → Prop, Shut (∀ v w', G w' → F w' i v → (∀ j u, F w j u → F w' j u) → K (a.put o.dst v) w') → if Region.wanted o (yielded ops a.tmps) = true then Oper.wp P o a w K Q else K (a.put o.dst undef) w
def StepsL (P : Program) (ops : Array Oper) (A : Act) (F : World → Nat → Value → Prop) (G : World → Prop) (Q : Exit → Act → World → Prop) : Nat → List Oper → Prop
 | _, [] => True
 | i, o :: os => StepL P ops A F G Q i o ∧ StepsL P ops A F G Q (i + 1) os
theorem StepsL.at {A : Act} {F : World → Nat → Value → Prop} {G : World → Prop} : ∀ (os : List Oper) (k i : Nat) (o : Oper), StepsL P ops A F G Q k os → os[i]? = some o → StepL P ops A F G Q (k + i) o
 | [], _, _, _, _, h => by simp at h
 | x :: os, k, 0, o, hs, h => by simp at h; subst h; exact hs.1
 | x :: os, k, i + 1, o, hs, h => by
  have := StepsL.at os (k + 1) i o hs.2 (by simpa using h);rw [show k + (i + 1) = k + 1 + i by omega]; exact this
theorem wp_region_factsL {id : Nat} {A : Act} {w : World} (hm : P.follows .mixedOrders = true) (n : Nat) (hn : A.tmps.size = n) (hok : okOpsL ops n = true) (F : World → Nat → Value → Prop) (G : World → Prop) (hG : G w.drew)
  (hsteps : StepsL P ops A F G Q 0 ops.toList.dropLast)
  {o : Oper} (hback : ops.back? = some o) (hlast : ∀ a w, Off ops.pop A a → G w → (∀ (i : Nat) (o : Oper) (d : Tmp), i + 1 < ops.size → ops[i]? = some o → o.dst = some d → ∃ v, a.tmps[d]? = some v ∧ F w i v) → if Region.wanted o (yielded ops a.tmps) = true then Oper.wp P o a w (fun a' w' => Q .normal a' w') Q else Q .normal (a.put o.dst undef) w)
  (hpos : 0 < ops.size) :
  (Code.region id ops true).wp P Q A w := by
 refine wp_region_any hm (wpAny_inv (J := fun listed a w => listed.size = ops.size ∧ ((listed.getD (ops.size - 1) false = false ∧ Off ops.pop A a ∧ G w ∧ (∀ (i : Nat) (o : Oper), ops[i]? = some o → listed.getD i false = true → ∀ e ∈ o.after, Region.binds .any e = true → listed.getD e.on false = true) ∧
   ∀ (i : Nat) (o : Oper) (d : Tmp), ops[i]? = some o → o.dst = some d → listed.getD i false = true → ∃ v, a.tmps[d]? = some v ∧ F w i v) ∨ ((∀ i, i < ops.size → listed.getD i false = true) ∧ Q .normal a w))) ?_ ?_ _ _ _ _ ?_ ?_)
 ·rintro listed a w i ⟨hsz, hJ⟩ hi
  obtain ⟨h1, o, ho, hall⟩ := mem_ready.1 hi;have HBK := hback;have hin := getD_lt h1
  have hlf : listed.getD i false = false := by
   have : i < listed.size := hin;simp [this] at h1 ⊢; exact h1
  rcases hJ with ⟨hl0, hoff, hg, hcl, hf⟩ | ⟨hal, -⟩
  case inr => rw [hal i (by omega)] at hlf; cases hlf
  obtain ⟨kaft, krest⟩ := okOpsL.at hok ho
  by_cases hlt : i + 1 < ops.size
  ·obtain ⟨⟨d, k2, k3⟩, k4, -⟩ := krest hlt
   have hst := StepsL.at ops.toList.dropLast 0 i o hsteps (by rw [List.getElem?_dropLast, if_pos (by simp; omega)]; simpa using ho);rw [Nat.zero_add] at hst;unfold wpOp;rw [ho];simp only
   have key := hst a w hoff hg (fun j o' d' hj ho' hd' => by
    obtain ⟨e, he, hb⟩ := Array.any_eq_true'.1 hj;simp only [Bool.and_eq_true, beq_iff_eq] at hb
    exact hf j o' d' ho' hd' (by rw [← hb.2]; exact hall e he hb.1)) (fun a' w' => (listed.setIfInBounds i true).size = ops.size ∧ (((listed.setIfInBounds i true).getD (ops.size - 1) false = false ∧ Off ops.pop A a' ∧ G w' ∧ (∀ (i' : Nat) (o : Oper), ops[i']? = some o → (listed.setIfInBounds i true).getD i' false = true → ∀ e ∈ o.after, Region.binds .any e = true → (listed.setIfInBounds i true).getD e.on false = true) ∧
     ∀ (j : Nat) (o : Oper) (d : Tmp), ops[j]? = some o → o.dst = some d → (listed.setIfInBounds i true).getD j false = true → ∃ v, a'.tmps[d]? = some v ∧ F w' j v) ∨ ((∀ i', i' < ops.size → (listed.setIfInBounds i true).getD i' false = true) ∧ Q .normal a' w'))) (fun v w' hg' hf' hstay => by
    rw [k2];refine ⟨by rw [Array.size_setIfInBounds]; exact hsz, .inl ⟨by rw [getD_set_ne false (by omega)]; exact hl0, hoff.put (i := i) (o := o) (by rw [Array.getElem?_pop, if_pos (by omega)]; exact ho) k2 v, hg', fun i' o' ho' hl' e he hb => ?_, fun j o' d' ho' hd' hl => ?_⟩⟩
    ·have up : ∀ q, listed.getD q false = true → (listed.setIfInBounds i true).getD q false = true := fun q hq => by
      by_cases e : i = q
      ·subst e; simp [hin]
      ·rw [getD_set_ne false e]; exact hq
     by_cases e' : i' = i
     ·subst e'
      obtain rfl : o' = o := Option.some.inj (ho'.symm.trans ho);exact up _ (hall e he hb)
     ·rw [getD_set_ne false (fun h => e' h.symm)] at hl'
      exact up _ (hcl i' o' ho' hl' e he hb)
    ·by_cases e : j = i
     ·subst e
      obtain rfl : o' = o := Option.some.inj (ho'.symm.trans ho);obtain rfl : d' = d := Option.some.inj (hd'.symm.trans k2);refine ⟨v, ?_, hf'⟩
      show (a.tmps.setIfInBounds d' v)[d']? = _
      rw [Array.getElem?_setIfInBounds, if_pos rfl, if_pos (by rw [hoff.size, hn]; exact k3)]
     ·rw [getD_set_ne false (fun h => e h.symm)] at hl
      obtain ⟨u, hu, hF⟩ := hf j o' d' ho' hd' hl;refine ⟨u, ?_, hstay j u hF⟩;have hne : d ≠ d' := fun h => k4 j o' ho' e (by rw [hd', k2, h])
      show (a.tmps.setIfInBounds d v)[d']? = _
      rw [Array.getElem?_setIfInBounds, if_neg hne]; exact hu)
   split
   ·rename_i hw; rw [if_pos hw] at key; exact .inl key
   ·rename_i hw; rw [if_neg hw] at key; exact key
  ·obtain rfl : i = ops.size - 1 := by have := (Array.getElem?_eq_some_iff.1 ho).1; omega
   have hoe := Option.some.inj (HBK.symm.trans (by rw [Array.back?_eq_getElem?]; exact ho));subst hoe
   have all : ∀ k j, j + k + 1 = ops.size → 0 < k → listed.getD j false = true := by
    intro k
    induction k using Nat.strongRecOn with
    | _ k ih =>
     intro j hj hk;have hoj : ops[j]? = some (ops[j]'(by omega)) := Array.getElem?_eq_getElem _;obtain ⟨-, hr⟩ := okOpsL.at hok hoj;obtain ⟨-, -, j', o', hj', e, he, hb, hon⟩ := hr (by omega);have hlt' : j < j' := by rw [← hon]; exact (okOpsL.at hok hj').1 e he
     have hj'lt := (Array.getElem?_eq_some_iff.1 hj').1
     by_cases hL : j' = ops.size - 1
     ·subst hL
      obtain rfl : o' = o := Option.some.inj (hj'.symm.trans ho);rw [← hon]; exact hall e he hb
     ·have := ih (ops.size - 1 - j') (by omega) j' (by omega) (by omega)
      rw [← hon]; exact hcl j' o' hj' this e he hb
   have key := hlast a w hoff hg (fun i' o' d' hi' ho' hd' => hf i' o' d' ho' hd' (all (ops.size - 1 - i') i' (by omega) (by omega)))
   have fin : ∀ a' w', Q .normal a' w' → (listed.setIfInBounds (ops.size - 1) true).size = ops.size ∧ (((listed.setIfInBounds (ops.size - 1) true).getD (ops.size - 1) false = false ∧ Off ops.pop A a' ∧ G w' ∧ (∀ (i' : Nat) (o : Oper), ops[i']? = some o → (listed.setIfInBounds (ops.size - 1) true).getD i' false = true → ∀ e ∈ o.after, Region.binds .any e = true → (listed.setIfInBounds (ops.size - 1) true).getD e.on false = true) ∧
     ∀ (j : Nat) (o : Oper) (d : Tmp), ops[j]? = some o → o.dst = some d → (listed.setIfInBounds (ops.size - 1) true).getD j false = true → ∃ v, a'.tmps[d]? = some v ∧ F w' j v) ∨ ((∀ i', i' < ops.size → (listed.setIfInBounds (ops.size - 1) true).getD i' false = true) ∧ Q .normal a' w')) := by
    intro a' w' hq;refine ⟨by rw [Array.size_setIfInBounds]; exact hsz, .inr ⟨fun i' hi' => ?_, hq⟩⟩
    by_cases e : ops.size - 1 = i'
    ·subst e; simp [hin]
    ·rw [getD_set_ne false e]; exact all (ops.size - 1 - i') i' (by omega) (by omega)
   have hop : wpOp P ops Q (ops.size - 1) (fun a' w' => Q .normal a' w') a w := by
    unfold wpOp;rw [ho];simp only
    split
    ·rename_i hw; rw [if_pos hw] at key; exact .inl key
    ·rename_i hw; rw [if_neg hw] at key; exact key
   exact wpOp_mono (fun a' w' h => fin a' w' h) hop
 ·rintro listed a w ⟨hsz, hJ⟩ hr
  rcases hJ with ⟨hl0, -⟩ | ⟨-, hq⟩
  case inr => exact hq
  exfalso
  have all : ∀ i, i < ops.size → listed.getD i false = true := by
   intro i
   induction i using Nat.strongRecOn with
   | _ i ih =>
    intro hi
    cases hl : listed.getD i true with
    | true => simpa [hsz, hi] using hl
    | false =>
     have ho : ops[i]? = some ops[i] := Array.getElem?_eq_getElem hi;have : i ∈ Region.ready .any ops listed := mem_ready.2 ⟨hl, ops[i], ho, fun e he _ => ih e.on ((okOpsL.at hok ho).1 e he) (Nat.lt_trans ((okOpsL.at hok ho).1 e he) hi)⟩;rw [hr] at this; cases this
  rw [all (ops.size - 1) (by omega)] at hl0
  cases hl0
 ·exact Nat.le_trans List.countP_le_length (by simp)
 ·exact ⟨by simp, .inl ⟨none_listed _ _, Off.refl _ _, hG, fun i o _ hl => (by rw [none_listed] at hl; cases hl), fun i o d _ _ hl => by rw [none_listed] at hl; cases hl⟩⟩
end
end Go.Proofs.YtcmlojigcgihbaaGreat
namespace Go.Proofs.YtcmlojigcgihbaaGreat
open Go.RowKit
theorem decl6_get {i : Nat} (h : i < 6) : decl6 i = decls6[i]'h := by
 match i, h with
 | 0, _ => rfl
 | 1, _ => rfl
 | 2, _ => rfl
 | 3, _ => rfl
 | 4, _ => rfl
 | 5, _ => rfl
theorem decl6_ok {i : Nat} (h : i < 6) : (decl6 i).name.size ≤ maxLen ∧ 1 ≤ (decl6 i).arity ∧ (decl6 i).arity ≤ 3 := by
 match i, h with
 | 0, _ => decide
 | 1, _ => decide
 | 2, _ => decide
 | 3, _ => decide
 | 4, _ => decide
 | 5, _ => decide
def RelAt (B : Nat) (w : World) (v : Value) : Prop := ∃ b, v = .slice (some ⟨b, 0, none⟩) 6 6 ∧ B ≤ b ∧ RepDes (fun k => B ≤ k ∧ k < w.heap.size) w decls6 v
theorem RelAt.stay {B : Nat} {w w' : World} {v : Value} (hb : Below w.heap.size w w') (h : RelAt B w v) : RelAt B w' v := by
 obtain ⟨b, e, hB, h⟩ := h;exact ⟨b, e, hB, RepDes.on (fun k hk => ⟨hk.1, Nat.lt_of_lt_of_le hk.2 hb.size⟩) (fun k hk => hb.block k hk.2) h⟩
def DeclPtr (i : Nat) (w : World) (v : Value) : Prop := ∃ b, v = .pointer (some ⟨b, i * 2, none⟩) ∧ b < w.heap.size ∧ w.cell? ⟨b, i * 2, none⟩ = some (.string (decl6 i).name) ∧ w.cell? ⟨b, i * 2 + 1, none⟩ = some (.int .i64 (decl6 i).arity)
theorem DeclPtr.stay {i : Nat} {w w' : World} {v : Value} (hb : Below w.heap.size w w') (h : DeclPtr i w v) : DeclPtr i w' v := by
 obtain ⟨b, e, hB, h1, h2⟩ := h;exact ⟨b, e, Nat.lt_of_lt_of_le hB hb.size, (hb.cell (p := ⟨b, i * 2, none⟩) hB).trans h1, (hb.cell (p := ⟨b, i * 2 + 1, none⟩) hB).trans h2⟩
theorem RelAt.ptr {B i : Nat} {w : World} {b : Nat} (hi : i < 6) (h : RepDes (fun k => B ≤ k ∧ k < w.heap.size) w decls6 (.slice (some ⟨b, 0, none⟩) 6 6)) : DeclPtr i w (.pointer (some ⟨b, i * 2, none⟩)) := by
 obtain ⟨-, -, b', o, e, hS, c0, c1, -⟩ := RepDes.at h i hi
 cases e
 rw [← decl6_get hi, Nat.zero_add] at c0 c1;exact ⟨b, rfl, hS.2, c0, c1⟩
def ZeroDe (B : Nat) (w : World) (v : Value) : Prop := ∃ b, v = .pointer (some ⟨b, 0, none⟩) ∧ B ≤ b ∧ BoxDe w b (.string ⟨#[]⟩) (.int .i64 0)
theorem ZeroDe.stay {B : Nat} {w w' : World} {v : Value} (hb : Below w.heap.size w w') (h : ZeroDe B w v) : ZeroDe B w' v := by
 obtain ⟨b, e, hB, h1⟩ := h;exact ⟨b, e, hB, h1.on hb⟩
theorem boxDe_set {w : World} {k : Nat} {c0 c1 : Value} (h : BoxDe w k c0 c1) (d0 d1 : Value) : BoxDe ((w.setCell ⟨k, 0, none⟩ d0).setCell ⟨k, 1, none⟩ d1) k d0 d1 :=
 heap_setCell_same _ _ _ _ _ _ (heap_setCell_same _ _ _ _ _ _ h)
def at7 (c0 c1 c2 c3 c4 c5 c6 : Value) : Nat → Value
 | 0 => c0 | 1 => c1 | 2 => c2 | 3 => c3 | 4 => c4 | 5 => c5 | _ => c6
theorem mineOne {w : World} {base b : Nat} {S : Nat → Prop} {y : Tm} {c0 c1 c2 c3 c4 c5 c6 : Value} (hb : w.heap[b]? = some (.cells #[c0, c1, c2, c3, c4, c5, c6] 54 (0, 0))) (hB : base ≤ b) (hS : ∀ k, S k → base ≤ k ∧ k < w.heap.size ∧ k ≠ b) (h : RepM S w y c0 c1 c2 c3 c4 c5 c6) :
  MineK kdTm w base [y] (.slice (some ⟨b, 0, none⟩) 1 1) := by
 refine ⟨[c0, c1, c2, c3, c4, c5, c6], ⟨rfl, .inr ⟨b, 1, _, rfl, hB, hb, Nat.le_refl _, by decide, rfl, rfl⟩⟩, fun i hi => ?_⟩;obtain rfl : i = 0 := by simpa using hi
 exact ⟨at7 c0 c1 c2 c3 c4 c5 c6, fun j hj => match j, hj with | 0, _ => rfl | 1, _ => rfl | 2, _ => rfl | 3, _ => rfl | 4, _ => rfl | 5, _ => rfl | 6, _ => rfl,
  RepM.on (fun k hk => ⟨(hS k hk).1, (hS k hk).2.1, fun e => (hS k hk).2.2 (Option.some.inj e).symm⟩) (fun _ _ => rfl) y h⟩
theorem vName_size (i : Nat) : (vName i).size ≤ maxLen := by
 show 1 ≤ maxLen
 decide
theorem adrName_size (i : Nat) : (adrName i).size ≤ maxLen := by
 show 1 ≤ maxLen
 decide
theorem vTm_rep (S : Nat → Prop) (w : World) (i : Nat) : RepM S w (vTm i) (.int .i64 1) (.string (vName i)) (.int .i64 0) (.int .i64 0) (.string ⟨#[]⟩) (.slice none 0 0) (.slice none 0 0) :=
 repM_mk.2 ⟨rfl, rfl, small64 (by omega), vName_size i, zV_rep S w, slg_nil⟩
theorem numZ_rep (S : Nat → Prop) (w : World) {n : Int} (hn : I64 n) : RepM S w (numZ n) (.int .i64 2) (.string ⟨#[]⟩) (.int .i64 1) (.int .i64 n) (.string ⟨#[]⟩) (.slice none 0 0) (.slice none 0 0) :=
 repM_mk.2 ⟨rfl, rfl, small64 (by omega), by decide, flat_rep S w 1 n ⟨#[]⟩ (small64 (by omega)) hn (by decide), slg_nil⟩
theorem adrZ_rep (S : Nat → Prop) (w : World) (i : Nat) : RepM S w (adrZ i) (.int .i64 2) (.string ⟨#[]⟩) (.int .i64 3) (.int .i64 0) (.string (adrName i)) (.slice none 0 0) (.slice none 0 0) :=
 repM_mk.2 ⟨rfl, rfl, small64 (by omega), by decide, flat_rep S w 3 0 (adrName i) (small64 (by omega)) (small64 (by omega)) (adrName_size i), slg_nil⟩
theorem sumZ_rep {S : Nat → Prop} {w : World} {y z : Tm} {s : ByteArray} {b : Nat} {c0 c1 c2 c3 c4 c5 c6 d0 d1 d2 d3 d4 d5 d6 : Value} (hs : s.size ≤ maxLen) (hb : w.heap[b]? = some (.cells #[c0, c1, c2, c3, c4, c5, c6, d0, d1, d2, d3, d4, d5, d6] 54 (0, 0))) (hS : S b)
  (h1 : RepM S w y c0 c1 c2 c3 c4 c5 c6) (h2 : RepM S w z d0 d1 d2 d3 d4 d5 d6) :
  RepM S w (sumZ y z s) (.int .i64 4) (.string s) (.int .i64 0) (.int .i64 0) (.string ⟨#[]⟩) (.slice none 0 0) (.slice (some ⟨b, 0, none⟩) 2 2) :=
 repM_mk.2 ⟨rfl, rfl, small64 (by omega), hs, zV_rep S w, slg_row hb hS rfl (by simp) (fun i h => match i, h with
  | 0, _ => h1
  | 1, _ => h2)⟩
theorem atomTo_succ (x : Rw) (k : Nat) (hk : 1 ≤ k) : atomTo x (k + 1) = atomTo x k ++ [argZ (numOf x k)] := by
 obtain ⟨m, rfl⟩ : ∃ m, k = m + 1 := ⟨k - 1, by omega⟩;rw [atomTo, atomTo, Nat.add_sub_cancel, Nat.add_sub_cancel, List.range_succ, List.map_append];rfl
theorem numOf_i64 {x : Rw} (h : RwOk x) (k : Nat) : I64 (numOf x k) := by
 obtain ⟨-, -, h0, h1, h2, h3⟩ := h
 match k with
 | 0 => exact h0
 | 1 => exact h1
 | 2 => exact h2
 | 3 => exact h3
 | _ + 4 => exact ⟨by show (_ : Int) ≤ 0; omega, by show (0 : Int) ≤ _; omega⟩
theorem abc_at {r : Nat} (h : r < 3) : (#[.string ⟨#[97]⟩, .string ⟨#[98]⟩, .string ⟨#[99]⟩] : Array Value)[r]? = some (.string (adrName r)) := by
 match r, h with
 | 0, _ => rfl
 | 1, _ => rfl
 | 2, _ => rfl
theorem tdiv_i64 {k : Int} (h : I64 k) (n : Int) (hn : 1 ≤ n) : I64 (k.tdiv n) := by
 obtain ⟨h1, h2⟩ := h
 by_cases hk : 0 ≤ k
 ·rw [Int.tdiv_eq_ediv_of_nonneg hk]
  have a1 := Int.ediv_nonneg hk (show 0 ≤ n by omega);have a2 := Int.ediv_le_self n hk;exact ⟨by omega, by omega⟩
 ·have e : k.tdiv n = -((-k).tdiv n) := by rw [Int.neg_tdiv, Int.neg_neg]
  have hk' : 0 ≤ -k := by omega
  rw [e, Int.tdiv_eq_ediv_of_nonneg hk'];have a1 := Int.ediv_nonneg hk' (show 0 ≤ n by omega);have a2 := Int.ediv_le_self n hk';refine ⟨by omega, by omega⟩
end Go.Proofs.YtcmlojigcgihbaaGreat
