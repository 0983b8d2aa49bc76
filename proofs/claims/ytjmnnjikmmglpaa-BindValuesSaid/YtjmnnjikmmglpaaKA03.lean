/-
  RegionP, SixGrow, RowManyS, RowTwo, RowMine, List
-/
import Derived.Test.YtjmnnjikmmglpaaKA02
import Derived.Test.YtjmnnjikmmglpaaKA01
import Derived.WalkSpells
import Derived.WalkLawsBesides
namespace Go.Proofs.Ytjmnnjikmmglpaa
open Go
section
variable {P : Program} {ops : Array Oper} {Q : Exit → Act → World → Prop}
def okEarly (ops : Array Oper) (t : Nat) (early : Nat → Bool) : Bool :=
 decide (t + 1 < ops.size) && (List.range ops.size).all fun i => !early i || (decide (i < t) && (List.range ops.size).any fun j => (j == t || early j) && (match ops[j]? with | some o' => o'.after.any (fun e => Region.binds .any e && e.on == i) | none => false))
theorem okEarly.at {t i : Nat} {early : Nat → Bool} (h : okEarly ops t early = true) (hi : i < ops.size) (he : early i = true) : i < t ∧ ∃ (j : Nat) (o' : Oper), (j = t ∨ early j = true) ∧ ops[j]? = some o' ∧ ∃ e ∈ o'.after, Region.binds .any e = true ∧ e.on = i := by
 unfold okEarly at h;simp only [Bool.and_eq_true, List.all_eq_true] at h
 have h1 := h.2 i (List.mem_range.2 hi);rw [he] at h1;simp only [Bool.not_true, Bool.false_or, Bool.and_eq_true, decide_eq_true_eq] at h1
 refine ⟨h1.1, ?_⟩;obtain ⟨j, _, hj2⟩ := List.any_eq_true.1 h1.2;simp only [Bool.and_eq_true, Bool.or_eq_true, beq_iff_eq] at hj2
 obtain ⟨g1, g2⟩ := hj2
 split at g2
 ·rename_i o' ho'
  obtain ⟨e, hee, hb⟩ := Array.any_eq_true'.1 g2;simp only [Bool.and_eq_true, beq_iff_eq] at hb
  exact ⟨j, o', g1, ho', e, hee, hb.1, hb.2⟩
 ·cases g2
def StepP (P : Program) (ops : Array Oper) (A : Act) (F : Bool → World → Nat → Value → Prop) (G : Bool → World → Prop) (Q : Exit → Act → World → Prop) (ph : Bool) (i : Nat) (o : Oper) : Prop :=
 ∀ (a : Act) (w : World), Off ops.pop A a → G ph w →
  (∀ (j : Nat) (o' : Oper) (d : Tmp), (o.after.any fun e => Region.binds .any e && e.on == j) = true → ops[j]? = some o' → o'.dst = some d → ∃ v, a.tmps[d]? = some v ∧ F ph w j v) →
  ∀ K : Act → World → Prop, Shut (∀ v w', G ph w' → F ph w' i v → (∀ j u, F ph w j u → F ph w' j u) → K (a.put o.dst v) w') → if Region.wanted o (yielded ops a.tmps) = true then Oper.wp P o a w K Q else K (a.put o.dst undef) w
def StepT (P : Program) (ops : Array Oper) (A : Act) (F : Bool → World → Nat → Value → Prop) (G : Bool → World → Prop) (Q : Exit → Act → World → Prop) (i : Nat) (o : Oper) : Prop :=
 ∀ (a : Act) (w : World), Off ops.pop A a → G false w →
  (∀ (j : Nat) (o' : Oper) (d : Tmp), (o.after.any fun e => Region.binds .any e && e.on == j) = true → ops[j]? = some o' → o'.dst = some d → ∃ v, a.tmps[d]? = some v ∧ F false w j v) →
  ∀ K : Act → World → Prop, Shut (∀ v w', G true w' → F true w' i v → (∀ j u, j ≠ i → F false w j u → F true w' j u) → K (a.put o.dst v) w') → if Region.wanted o (yielded ops a.tmps) = true then Oper.wp P o a w K Q else K (a.put o.dst undef) w
def StepsP (P : Program) (ops : Array Oper) (A : Act) (F : Bool → World → Nat → Value → Prop) (G : Bool → World → Prop) (Q : Exit → Act → World → Prop) (t : Nat) (early : Nat → Bool) : Nat → List Oper → Prop
 | _, [] => True
 | i, o :: os => (match i == t, early i with
   | true, _ => StepT P ops A F G Q i o
   | false, true => StepP P ops A F G Q false i o
   | false, false => ∀ ph, StepP P ops A F G Q ph i o) ∧ StepsP P ops A F G Q t early (i + 1) os
theorem StepsP.at {A : Act} {F : Bool → World → Nat → Value → Prop} {G : Bool → World → Prop} {t : Nat} {early : Nat → Bool} : ∀ (os : List Oper) (k i : Nat) (o : Oper), StepsP P ops A F G Q t early k os → os[i]? = some o →
  (match k + i == t, early (k + i) with
   | true, _ => StepT P ops A F G Q (k + i) o
   | false, true => StepP P ops A F G Q false (k + i) o
   | false, false => ∀ ph, StepP P ops A F G Q ph (k + i) o)
 | [], _, _, _, _, h => by simp at h
 | x :: os, k, 0, o, hs, h => by simp at h; subst h; exact hs.1
 | x :: os, k, i + 1, o, hs, h => by
  have := StepsP.at os (k + 1) i o hs.2 (by simpa using h);rw [show k + (i + 1) = k + 1 + i by omega]; exact this
theorem wp_region_factsP {id : Nat} {A : Act} {w : World} (hm : P.follows .mixedOrders = true) (n : Nat) (hn : A.tmps.size = n) (hok : okOpsL ops n = true) (t : Nat) (early : Nat → Bool) (het : okEarly ops t early = true) (F : Bool → World → Nat → Value → Prop) (G : Bool → World → Prop) (hG : G false w.drew)
  (hsteps : StepsP P ops A F G Q t early 0 ops.toList.dropLast)
  {o : Oper} (hback : ops.back? = some o) (hlast : ∀ a w, Off ops.pop A a → G true w → (∀ (i : Nat) (o : Oper) (d : Tmp), i + 1 < ops.size → ops[i]? = some o → o.dst = some d → ∃ v, a.tmps[d]? = some v ∧ F true w i v) → if Region.wanted o (yielded ops a.tmps) = true then Oper.wp P o a w (fun a' w' => Q .normal a' w') Q else Q .normal (a.put o.dst undef) w) :
  (Code.region id ops true).wp P Q A w := by
 have htl : t + 1 < ops.size := by unfold okEarly at het; simp only [Bool.and_eq_true, decide_eq_true_eq] at het; exact het.1
 refine wp_region_any hm (wpAny_inv (J := fun listed a w => listed.size = ops.size ∧ ((listed.getD (ops.size - 1) false = false ∧ Off ops.pop A a ∧ G (listed.getD t false) w ∧ (∀ (i : Nat) (o : Oper), ops[i]? = some o → listed.getD i false = true → ∀ e ∈ o.after, Region.binds .any e = true → listed.getD e.on false = true) ∧
   ∀ (i : Nat) (o : Oper) (d : Tmp), ops[i]? = some o → o.dst = some d → listed.getD i false = true → ∃ v, a.tmps[d]? = some v ∧ F (listed.getD t false) w i v) ∨ ((∀ i, i < ops.size → listed.getD i false = true) ∧ Q .normal a w))) ?_ ?_ _ _ _ _ ?_ ?_)
 ·rintro listed a w i ⟨hsz, hJ⟩ hi
  obtain ⟨h1, o, ho, hall⟩ := mem_ready.1 hi;have HBK := hback;have hin := getD_lt h1
  have hlf : listed.getD i false = false := by
   have : i < listed.size := hin;simp [this] at h1 ⊢; exact h1
  rcases hJ with ⟨hl0, hoff, hg, hcl, hf⟩ | ⟨hal, -⟩
  case inr => rw [hal i (by omega)] at hlf; cases hlf
  obtain ⟨kaft, krest⟩ := okOpsL.at hok ho
  by_cases hlt : i + 1 < ops.size
  ·obtain ⟨⟨d, k2, k3⟩, k4, -⟩ := krest hlt
   have hst := StepsP.at ops.toList.dropLast 0 i o hsteps (by rw [List.getElem?_dropLast, if_pos (by simp; omega)]; simpa using ho);rw [Nat.zero_add] at hst
   have up : ∀ q, listed.getD q false = true → (listed.setIfInBounds i true).getD q false = true := fun q hq => by
    by_cases e : i = q
    ·subst e; simp [hin]
    ·rw [getD_set_ne false e]; exact hq
   have closed : ∀ (i' : Nat) (o' : Oper), ops[i']? = some o' → (listed.setIfInBounds i true).getD i' false = true → ∀ e ∈ o'.after, Region.binds .any e = true → (listed.setIfInBounds i true).getD e.on false = true := fun i' o' ho' hl' e he hb => by
    by_cases e' : i' = i
    ·subst e'
     obtain rfl : o' = o := Option.some.inj (ho'.symm.trans ho);exact up _ (hall e he hb)
    ·rw [getD_set_ne false (fun h => e' h.symm)] at hl'
     exact up _ (hcl i' o' ho' hl' e he hb)
   have nl : (listed.setIfInBounds i true).getD (ops.size - 1) false = false := by rw [getD_set_ne false (by omega)]; exact hl0
   have dep : ∀ ph, ph = listed.getD t false → (∀ (j : Nat) (o' : Oper) (d : Tmp), (o.after.any fun e => Region.binds .any e && e.on == j) = true → ops[j]? = some o' → o'.dst = some d → ∃ v, a.tmps[d]? = some v ∧ F ph w j v) := fun ph hph j o' d' hj ho' hd' => by
    obtain ⟨e, he, hb⟩ := Array.any_eq_true'.1 hj;simp only [Bool.and_eq_true, beq_iff_eq] at hb
    rw [hph];exact hf j o' d' ho' hd' (by rw [← hb.2]; exact hall e he hb.1)
   have facts : ∀ (ph ph' : Bool) (v : Value) (w' : World), ph = listed.getD t false → F ph' w' i v → (∀ j u, j ≠ i → F ph w j u → F ph' w' j u) → ∀ (j : Nat) (o' : Oper) (d' : Tmp), ops[j]? = some o' → o'.dst = some d' → (listed.setIfInBounds i true).getD j false = true → ∃ u, (a.put o.dst v).tmps[d']? = some u ∧ F ph' w' j u := fun ph ph' v w' hph hf' hstay j o' d' ho' hd' hl => by
    rw [k2]
    by_cases e : j = i
    ·subst e
     obtain rfl : o' = o := Option.some.inj (ho'.symm.trans ho);obtain rfl : d' = d := Option.some.inj (hd'.symm.trans k2);refine ⟨v, ?_, hf'⟩
     show (a.tmps.setIfInBounds d' v)[d']? = _
     rw [Array.getElem?_setIfInBounds, if_pos rfl, if_pos (by rw [hoff.size, hn]; exact k3)]
    ·rw [getD_set_ne false (fun h => e h.symm)] at hl
     obtain ⟨u, hu, hF⟩ := hf j o' d' ho' hd' hl;rw [← hph] at hF;refine ⟨u, ?_, hstay j u e hF⟩;have hne : d ≠ d' := fun h => k4 j o' ho' e (by rw [hd', k2, h])
     show (a.tmps.setIfInBounds d v)[d']? = _
     rw [Array.getElem?_setIfInBounds, if_neg hne]; exact hu
   have offs : ∀ v, Off ops.pop A (a.put o.dst v) := fun v => by rw [k2]; exact hoff.put (i := i) (o := o) (by rw [Array.getElem?_pop, if_pos (by omega)]; exact ho) k2 v
   have fin : ∀ (K : Act → World → Prop), (if Region.wanted o (yielded ops a.tmps) = true then Oper.wp P o a w K Q else K (a.put o.dst undef) w) → (∀ a' w', K a' w' → (listed.setIfInBounds i true).size = ops.size ∧ (((listed.setIfInBounds i true).getD (ops.size - 1) false = false ∧ Off ops.pop A a' ∧ G ((listed.setIfInBounds i true).getD t false) w' ∧ (∀ (i' : Nat) (o : Oper), ops[i']? = some o → (listed.setIfInBounds i true).getD i' false = true → ∀ e ∈ o.after, Region.binds .any e = true → (listed.setIfInBounds i true).getD e.on false = true) ∧
     ∀ (j : Nat) (o : Oper) (d : Tmp), ops[j]? = some o → o.dst = some d → (listed.setIfInBounds i true).getD j false = true → ∃ v, a'.tmps[d]? = some v ∧ F ((listed.setIfInBounds i true).getD t false) w' j v) ∨ ((∀ i', i' < ops.size → (listed.setIfInBounds i true).getD i' false = true) ∧ Q .normal a' w'))) → wpOp P ops Q i (fun a' w' => (listed.setIfInBounds i true).size = ops.size ∧ (((listed.setIfInBounds i true).getD (ops.size - 1) false = false ∧ Off ops.pop A a' ∧ G ((listed.setIfInBounds i true).getD t false) w' ∧ (∀ (i' : Nat) (o : Oper), ops[i']? = some o → (listed.setIfInBounds i true).getD i' false = true → ∀ e ∈ o.after, Region.binds .any e = true → (listed.setIfInBounds i true).getD e.on false = true) ∧
     ∀ (j : Nat) (o : Oper) (d : Tmp), ops[j]? = some o → o.dst = some d → (listed.setIfInBounds i true).getD j false = true → ∃ v, a'.tmps[d]? = some v ∧ F ((listed.setIfInBounds i true).getD t false) w' j v) ∨ ((∀ i', i' < ops.size → (listed.setIfInBounds i true).getD i' false = true) ∧ Q .normal a' w'))) a w := by
    intro K key hK;refine wpOp_mono (fun a' w' h => hK a' w' h) ?_;unfold wpOp;rw [ho];simp only
    split
    ·rename_i hw; rw [if_pos hw] at key; exact .inl key
    ·rename_i hw; rw [if_neg hw] at key; exact key
   by_cases hit : i = t
   ·subst hit
    simp only [beq_self_eq_true] at hst
    have hph : listed.getD i false = false := hlf;have hnew : (listed.setIfInBounds i true).getD i false = true := by simp [hin]
    rw [hph] at hg;refine fin (fun a' w' => ∃ v, a' = a.put o.dst v ∧ G true w' ∧ F true w' i v ∧ ∀ j u, j ≠ i → F false w j u → F true w' j u) (hst a w hoff hg (dep false hph.symm) _ fun v w' g1 g2 g3 => ⟨v, rfl, g1, g2, g3⟩) ?_;rintro a' w' ⟨v, rfl, g1, g2, g3⟩;refine ⟨by rw [Array.size_setIfInBounds]; exact hsz, .inl ⟨nl, offs v, by rw [hnew]; exact g1, closed, ?_⟩⟩;rw [hnew];exact facts false true v w' hph.symm g2 g3
   ·have hnew : (listed.setIfInBounds i true).getD t false = listed.getD t false := getD_set_ne false hit
    have hbeq : (i == t) = false := by simpa using hit
    rw [hbeq] at hst
    -- what t hangs on has been, once t has
    have early_done : listed.getD t false = true → ∀ k q, q + k = t → 0 < k → early q = true → listed.getD q false = true := by
     intro hlt' k
     induction k using Nat.strongRecOn with
     | _ k ih =>
      intro q hq hk he;obtain ⟨h2, j, o', hj, ho', e, hee, hb, hon⟩ := okEarly.at het (i := q) (by omega) he;have hqj : q < j := by rw [← hon]; exact (okOpsL.at hok ho').1 e hee
      have hjl : listed.getD j false = true := by
       rcases hj with rfl | hj
       ·exact hlt'
       ·have hjt := (okEarly.at het (i := j) (Array.getElem?_eq_some_iff.1 ho').1 hj).1
        exact ih (t - j) (by omega) j (by omega) (by omega) hj
      rw [← hon]; exact hcl j o' ho' hjl e hee hb
    cases he : early i with
    | true =>
     rw [he] at hst;simp only at hst
     have hph : listed.getD t false = false := by
      cases hq : listed.getD t false with
      | false => rfl
      | true =>
       have := early_done hq (t - i) i (by have := (okEarly.at het (by omega) he).1; omega) (by have := (okEarly.at het (by omega) he).1; omega) he;rw [hlf] at this; cases this
     rw [hph] at hg hnew;refine fin (fun a' w' => ∃ v, a' = a.put o.dst v ∧ G false w' ∧ F false w' i v ∧ ∀ j u, F false w j u → F false w' j u) (hst a w hoff hg (dep false hph.symm) _ fun v w' g1 g2 g3 => ⟨v, rfl, g1, g2, g3⟩) ?_;rintro a' w' ⟨v, rfl, g1, g2, g3⟩;refine ⟨by rw [Array.size_setIfInBounds]; exact hsz, .inl ⟨nl, offs v, by rw [hnew]; exact g1, closed, ?_⟩⟩;rw [hnew];exact facts false false v w' hph.symm g2 (fun j u _ h => g3 j u h)
    | false =>
     rw [he] at hst;simp only at hst
     refine fin (fun a' w' => ∃ v, a' = a.put o.dst v ∧ G (listed.getD t false) w' ∧ F (listed.getD t false) w' i v ∧ ∀ j u, F (listed.getD t false) w j u → F (listed.getD t false) w' j u) (hst (listed.getD t false) a w hoff hg (dep _ rfl) _ fun v w' g1 g2 g3 => ⟨v, rfl, g1, g2, g3⟩) ?_;rintro a' w' ⟨v, rfl, g1, g2, g3⟩;refine ⟨by rw [Array.size_setIfInBounds]; exact hsz, .inl ⟨nl, offs v, by rw [hnew]; exact g1, closed, ?_⟩⟩;rw [hnew];exact facts _ _ v w' rfl g2 (fun j u _ h => g3 j u h)
  ·obtain rfl : i = ops.size - 1 := by have := (Array.getElem?_eq_some_iff.1 ho).1; omega
   have hoe := Option.some.inj (HBK.symm.trans (by rw [Array.back?_eq_getElem?]; exact ho));subst hoe
   have all : ∀ k j, j + k + 1 = ops.size → 0 < k → listed.getD j false = true := by
    intro k
    induction k using Nat.strongRecOn with
    | _ k ih =>
     intro j hj hk;have hoj : ops[j]? = some (ops[j]'(by omega)) := Array.getElem?_eq_getElem _;obtain ⟨-, hr⟩ := okOpsL.at hok hoj;obtain ⟨-, -, j', o', hj', e, he, hb, hon⟩ := hr (by omega);have hlt' : j < j' := by rw [← hon]; exact (okOpsL.at hok hj').1 e he
     have hj'lt := (Array.getElem?_eq_some_iff.1 hj').1
     by_cases hL : j' = ops.size - 1
     ·subst hL
      obtain rfl := Option.some.inj (hj'.symm.trans ho);rw [← hon]; exact hall e he hb
     ·have := ih (ops.size - 1 - j') (by omega) j' (by omega) (by omega)
      rw [← hon]; exact hcl j' o' hj' this e he hb
   have ht1 : listed.getD t false = true := all (ops.size - 1 - t) t (by omega) (by omega);rw [ht1] at hg hf;have key := hlast a w hoff hg (fun i' o' d' hi' ho' hd' => hf i' o' d' ho' hd' (all (ops.size - 1 - i') i' (by omega) (by omega)))
   have hop : wpOp P ops Q (ops.size - 1) (fun a' w' => Q .normal a' w') a w := by
    unfold wpOp;rw [ho];simp only
    split
    ·rename_i hw; rw [if_pos hw] at key; exact .inl key
    ·rename_i hw; rw [if_neg hw] at key; exact key
   refine wpOp_mono (fun a' w' hq => ⟨by rw [Array.size_setIfInBounds]; exact hsz, .inr ⟨fun i' hi' => ?_, hq⟩⟩) hop
   by_cases e : ops.size - 1 = i'
   ·subst e; simp [hin]
   ·rw [getD_set_ne false e]; exact all (ops.size - 1 - i') i' (by omega) (by omega)
 ·rintro listed a w ⟨hsz, hJ⟩ hr
  rcases hJ with ⟨hl0, -⟩ | ⟨-, hq⟩
  case inr => exact hq
  exfalso
  have all : ∀ i, i < ops.size → listed.getD i false = true := by
   intro i
   induction i using Nat.strongRecOn with
   | _ i ih =>
    intro hi
    cases hl : listed.getD i true with
    | true => simpa [hsz, hi] using hl
    | false =>
     have ho : ops[i]? = some ops[i] := Array.getElem?_eq_getElem hi;have : i ∈ Region.ready .any ops listed := mem_ready.2 ⟨hl, ops[i], ho, fun e he _ => ih e.on ((okOpsL.at hok ho).1 e he) (Nat.lt_trans ((okOpsL.at hok ho).1 e he) hi)⟩;rw [hr] at this; cases this
  rw [all (ops.size - 1) (by omega)] at hl0
  cases hl0
 ·exact Nat.le_trans List.countP_le_length (by simp)
 ·exact ⟨by simp, .inl ⟨none_listed _ _, Off.refl _ _, by rw [none_listed]; exact hG, fun i o _ hl => (by rw [none_listed] at hl; cases hl), fun i o d _ _ hl => by rw [none_listed] at hl; cases hl⟩⟩
end
end Go.Proofs.Ytjmnnjikmmglpaa
namespace Go.Proofs.Ytjmnnjikmmglpaa
open Go.RowKit
structure Aft (w : World) (B : Nat) (lv : Value) (w' : World) : Prop where
 below : Below B w w'
 block : ∀ k, k < w.heap.size → lv.ownBlock ≠ some k → w'.heap[k]? = w.heap[k]?
 size : w.heap.size ≤ w'.heap.size
theorem Aft.of {α : Type} {K : Kd α} {S : Nat → Prop} {w w1 w' : World} {B : Nat} {L : List α} {lv : Value} (ho : OwnK K S w B L lv) (hB : B ≤ w.heap.size) (hg : Below w.heap.size w w1) (h : w1.grownBy w' lv.ownBlock) : Aft w B lv w' := by
 have h1 := hg.size;have h2 := h.size;refine ⟨⟨h.os.trans hg.os, h.tape.trans hg.tape, h.output.trans hg.output, by omega, fun k hk => ?_⟩, fun k hk hne => ?_, by omega⟩
 ·exact (h.block k (by omega) (fun e => by have := (OwnK.lies ho k e.symm).1; omega)).trans (hg.block k (by omega))
 ·exact (h.block k (by omega) (fun e => hne e.symm)).trans (hg.block k hk)
def at4v (c0 c1 c2 c3 : Value) : Nat → Value
 | 0 => c0 | 1 => c1 | 2 => c2 | _ => c3
theorem step_append_by {P : Program} {ops : Array Oper} {o : Oper} {a : Act} {w w' : World} {K : Act → World → Prop} {Q : Exit → Act → World → Prop} {E : Prop} (hgd : o.guard = none) (s x : Operand) (t : TypeId)
  (ho : o.op = .call { callee := .builtin .append, args := #[s, x], argTypes := #[t, t] }) {v xv v' : Value} (hs : a.eval s = v) (hx : a.eval x = xv) (hrun : (Builtin.append_ #[t, t] o.type #[v, xv]).run P w = .ok v' w')
  (h : K (a.put o.dst v') w') : if Region.wanted o (yielded ops a.tmps) = true then Oper.wp P o a w K Q else E := by
 have hw : Region.wanted o (yielded ops a.tmps) = true := by simp [Region.wanted, hgd]
 rw [if_pos hw];unfold Oper.wp execOp;simp only [ho, resolve, invoke, builtin, Sem.run_bind, Sem.run_pure, Result.andThen_ok, List.map_toArray, List.map_cons, List.map_nil, hs, hx, hrun]
 exact h
end Go.Proofs.Ytjmnnjikmmglpaa
namespace Go.Proofs.Ytjmnnjikmmglpaa
open Go.RowKit
end Go.Proofs.Ytjmnnjikmmglpaa
namespace Go.Proofs.Ytjmnnjikmmglpaa
open Go.RowKit
end Go.Proofs.Ytjmnnjikmmglpaa
namespace Go.Proofs.Ytjmnnjikmmglpaa
open Go.RowKit
def MineS {α : Type} (K : Kd α) (S : Nat → Prop) (w : World) (B : Nat) (l : List α) (v : Value) : Prop := OwnK K (fun b => (S b ∨ B ≤ b) ∧ b < w.heap.size ∧ v.ownBlock ≠ some b) w B l v
section
variable {α : Type} {K : Kd α} {S : Nat → Prop}
theorem MineS.on {w w' : World} {B : Nat} {l : List α} {v : Value} (h : MineS K S w B l v) (hb : Below w.heap.size w w') : MineS K S w' B l v :=
 OwnK.on h (fun _k hk => ⟨hk.1, Nat.lt_of_lt_of_le hk.2.1 hb.size, hk.2.2⟩) (fun k hk => hb.block k hk.2.1) (fun k _ hk _ => hb.block k hk)
theorem MineS.lies {w : World} {B : Nat} {l : List α} {v : Value} (h : MineS K S w B l v) (k : Nat) (hk : v.ownBlock = some k) : B ≤ k ∧ k < w.heap.size := OwnK.lies h k hk
theorem MineS.form {w : World} {B : Nat} {l : List α} {v : Value} (h : MineS K S w B l v) : ∃ a cap, v = .slice a l.length cap := OwnK.form h
end
end Go.Proofs.Ytjmnnjikmmglpaa
namespace Go.Proofs.Ytjmnnjikmmglpaa
open Go.RowKit
def blank (n : Nat) : Array Value := madeCells #[.int .i64 0, .int .i64 0, .string ⟨#[]⟩, .slice none 0 0] (n * 4)
theorem blank_size (n : Nat) : (blank n).size = n * 4 := size_madeCells _ _
def CopyAt (l : List V) : Prop := ∀ (B : Nat) (w : World) (a : Value), B ≤ w.heap.size → RepL B w l a →
 Calls Try.prog 97 #[a] w fun e w' => ∃ r, e = .returned r ∧ RepLG (fun b => w.heap.size ≤ b ∧ b < w'.heap.size) w' l r ∧ Below w.heap.size w w'
theorem run_make4 (w : World) (n : Nat) (hn : n * 56 ≤ 140737488355328) :
  (Instr.makeSlice 23 (.int .i64 n) (.int .i64 n)).run Try.prog w = .ok (.slice (some ⟨w.heap.size, 0, none⟩) n n) (w.alloc (.cells (blank n) 28)) := by
 obtain ⟨i0, hi, hz0, hz1, hz2⟩ := info_parts infoValue;have h := Go.run_make (P := Try.prog) w 23 28 i0 _ Try.underlying23 hi hz0 .i64 .i64 n n (by omega) (by omega) (by rw [hz2]; omega) (by omega);rw [h, hz1, Int.toNat_natCast];rfl
def CopyInv (l : List V) (k : Nat) (w wr : World) : Prop :=
 ∃ cur, wr.heap[w.heap.size]? = some (.cells cur 28 (0, 0)) ∧ cur.size = l.length * 4 ∧ RepRow (fun b => w.heap.size < b ∧ b < wr.heap.size) wr (l.take k) cur ∧ Below w.heap.size w wr
theorem CopyInv.start (l : List V) (w : World) : CopyInv l 0 w (w.alloc (.cells (blank l.length) 28)) :=
 ⟨_, alloc_new' _ _, blank_size _, fun i hi => by simp at hi, (Below.refl _ w).alloc (Nat.le_refl _) _⟩
theorem CopyInv.finish {l : List V} {w wr : World} (h : CopyInv l l.length w wr) (hl : l.length * 56 ≤ 140737488355328) :
  RepLG (fun b => w.heap.size ≤ b ∧ b < wr.heap.size) wr l (.slice (some ⟨w.heap.size, 0, none⟩) l.length l.length) ∧ Below w.heap.size w wr := by
 obtain ⟨cur, hb, hs, hr, hbel⟩ := h;rw [List.take_length] at hr;exact ⟨(hr.on (fun k hk => ⟨by omega, hk.2⟩) (fun _ _ => rfl)).slice hb ⟨Nat.le_refl _, (Array.getElem?_eq_some_iff.1 hb).1⟩ (Nat.le_refl _) hl, hbel⟩
theorem CopyInv.step {l : List V} {k : Nat} {w wr w3 : World} (h : CopyInv l k w wr) (hk : k < l.length) {o : Obj} {r : Value} (hb3 : Below (wr.alloc o).heap.size (wr.alloc o) w3)
  {c0 c1 c2 : Value} (hx : RepG (fun b => w.heap.size < b ∧ b < w3.heap.size ∧ b ≠ wr.heap.size) w3 l[k] c0 c1 c2 r) (r' : Value) :
  CopyInv l (k + 1) w ((((((w3.setCell ⟨wr.heap.size, 3, none⟩ r').setCell ⟨w.heap.size, k * 4, none⟩ c0).setCell ⟨w.heap.size, k * 4 + 1, none⟩ c1).setCell ⟨w.heap.size, k * 4 + 2, none⟩ c2).setCell ⟨w.heap.size, k * 4 + 3, none⟩ r)) := by
 obtain ⟨cur, hb, hs, hr, hbel⟩ := h;have hlt : w.heap.size < wr.heap.size := (Array.getElem?_eq_some_iff.1 hb).1;have hs3 := hb3.size;simp only [World.size_alloc] at hs3
 have e3 : w3.heap[w.heap.size]? = some (.cells cur 28 (0, 0)) := by
  rw [hb3.block _ (by simp; omega), Below.heap_alloc _ _ _ hlt]; exact hb
 have e4 : (w3.setCell ⟨wr.heap.size, 3, none⟩ r').heap[w.heap.size]? = some (.cells cur 28 (0, 0)) := by
  rw [Below.heap_setCell _ _ _ _ (by simp; omega)]; exact e3
 have keep : ∀ b, b ≠ w.heap.size → b ≠ wr.heap.size → ((((((w3.setCell ⟨wr.heap.size, 3, none⟩ r').setCell ⟨w.heap.size, k * 4, none⟩ c0).setCell ⟨w.heap.size, k * 4 + 1, none⟩ c1).setCell ⟨w.heap.size, k * 4 + 2, none⟩ c2).setCell ⟨w.heap.size, k * 4 + 3, none⟩ r)).heap[b]? = w3.heap[b]? := by
  intro b h1 h2;rw [Below.heap_setCell _ _ _ _ (by simpa using h1), Below.heap_setCell _ _ _ _ (by simpa using h1), Below.heap_setCell _ _ _ _ (by simpa using h1), Below.heap_setCell _ _ _ _ (by simpa using h1), Below.heap_setCell _ _ _ _ (by simpa using h2)]
 have hsz : ((((((w3.setCell ⟨wr.heap.size, 3, none⟩ r').setCell ⟨w.heap.size, k * 4, none⟩ c0).setCell ⟨w.heap.size, k * 4 + 1, none⟩ c1).setCell ⟨w.heap.size, k * 4 + 2, none⟩ c2).setCell ⟨w.heap.size, k * 4 + 3, none⟩ r)).heap.size = w3.heap.size := by
  simp [World.setCell]
 refine ⟨put4 cur (k * 4) c0 c1 c2 r, ?_, by rw [put4_size]; exact hs, ?_, ?_⟩
 ·exact heap_setCell_same _ _ _ _ _ _ (heap_setCell_same _ _ _ _ _ _ (heap_setCell_same _ _ _ _ _ _ (heap_setCell_same _ _ _ _ _ _ e4)))
 ·rw [List.take_succ_eq_append_getElem hk]
  have hlen : (l.take k).length = k := by simp; omega
  have h1 : RepRow (fun b => w.heap.size < b ∧ b < w3.heap.size ∧ b ≠ wr.heap.size) w3 (l.take k) cur := hr.on (fun b hb => ⟨hb.1, by omega, by omega⟩) (fun b hb => by rw [hb3.block _ (by simp; omega), Below.heap_alloc _ _ _ hb.2]);have h2 := h1.snoc hx (by rw [hlen, hs]; omega);rw [hlen] at h2;exact h2.on (fun b hb => ⟨hb.1, by rw [hsz]; exact hb.2.1⟩) (fun b hb => keep b (by omega) hb.2.2)
 ·have hw3 : Below w.heap.size w w3 := (hbel.alloc (by omega) o).trans (hb3.mono (by simp; omega))
  exact ((((hw3.setCell (by simp; omega) _).setCell (Nat.le_refl _) _).setCell (Nat.le_refl _) _).setCell (Nat.le_refl _) _).setCell (Nat.le_refl _) _
set_option maxRecDepth 100000 in
set_option maxHeartbeats 1000000 in
theorem copied_of (l : List V) (hC : ∀ x, x ∈ l → CopyAt x.list) : CopyAt l := by
 intro B w a hB ha;obtain ⟨aa, ab, ao, ac, rfl, hal, hac, haa, hab, hax⟩ := ha;have HC := Lib.hid hC; clear hC
 have HAX := Lib.hid hax; clear hax
 have HAA := Lib.hid haa; clear haa
 by_cases hz : l.length = 0
 ·have hl0 : l = [] := List.length_eq_zero_iff.1 hz
  subst hl0;go_enter Try.func97, Try.ntmps97
  go_wp2_with fail
  go_ret
  exact ⟨_, rfl, ⟨none, 0, 0, 0, rfl, Nat.le_refl _, by simp, fun h => by omega, fun h => by simp at h, fun i hi => by simp at hi⟩, Below.refl _ _⟩
 have hz' : ((l.length : Int) == 0) = false := beq_eq_false_iff_ne.2 (by omega);have hmk : ∀ w, (Instr.makeSlice 23 (.int .i64 l.length) (.int .i64 l.length)).run Try.prog w = _ := fun w => run_make4 w l.length (by omega)
 go_enter Try.func97, Try.ntmps97
 go_wp2_with fail
 go_loopw [14] (fun i wr => ∃ k : Nat, k ≤ l.length ∧ i = .int .i64 k ∧ CopyInv l k w wr) (fun i _ => l.length - (intOf i).toNat)
 case atStart => exact ⟨0, Nat.zero_le _, rfl, CopyInv.start l w⟩
 case round =>
  obtain ⟨k, hk1, rfl, hinv⟩ := hrel;have hbel : Below w.heap.size w wr := by obtain ⟨_, _, _, _, h⟩ := hinv; exact h
  by_cases hl : k < l.length
  ·obtain ⟨x0, x1, x2, x3, g0, g1, g2, g3, gr⟩ := HAX.out k hl
   have hab' : ab < B := hab (by omega);obtain rfl := HAA.out (by omega);rw [← hbel.cell (by simp; omega)] at g0 g1 g2 g3;have hs := hbel.size;obtain ⟨fa, fc, rfl, rfl, rfl, rfl⟩ := gr.form;have HI := Lib.hid hinv; clear hinv
   have HG := Lib.hid gr; clear gr
   go_wp2_with fail
   have hb2 : Below w.heap.size w (wr.alloc (.cells #[.int .i64 l[k].kind, .int .i64 l[k].num, .string l[k].text, .slice fa l[k].list.length fc] 28)) := hbel.alloc hs _;refine (HC.out l[k] (List.getElem_mem hl) B _ _ (by simp; omega) (RepL.below (fun j hj => hb2.block j (by omega)) HG.out.lst)).mono ?_;rintro e w3 ⟨r, rfl, hrl, hb3⟩;obtain ⟨ra, rb, ro, rc, hr1, -⟩ := id hrl;subst hr1;have hs3 := hb3.size;simp only [World.size_alloc] at hs3
   have hx : RepG (fun b => w.heap.size < b ∧ b < w3.heap.size ∧ b ≠ wr.heap.size) w3 l[k] _ _ _ _ := HG.out.relist (hrl.on (fun b hb => ⟨by have := hb.1; simp at this; omega, hb.2, by have := hb.1; simp at this; omega⟩) (fun _ _ => rfl));have HX := Lib.hid (HI.out.step hl hb3 hx (.slice ra l[k].list.length rc)); clear hx
   have b1 : w3.heap[wr.heap.size]? = _ := (hb3.block wr.heap.size (by simp)).trans (alloc_new' _ _);obtain ⟨cur, m1, m2, -, -⟩ := HI.out;have hltM : w.heap.size < wr.heap.size := (Array.getElem?_eq_some_iff.1 m1).1
   have m3 : w3.heap[w.heap.size]? = some (.cells cur 28 (0, 0)) := by
    rw [hb3.block _ (by simp; omega), Below.heap_alloc _ _ _ hltM]; exact m1
   obtain ⟨u0, q0⟩ := cell_some m3 (i := k * 4) (by omega);obtain ⟨u1, q1⟩ := cell_some m3 (i := k * 4 + 1) (by omega);obtain ⟨u2, q2⟩ := cell_some m3 (i := k * 4 + 2) (by omega);obtain ⟨u3, q3⟩ := cell_some m3 (i := k * 4 + 3) (by omega);have z0 := frozen_of_row w3 _ (k * 4) _ _ m3;have z1 := frozen_of_row w3 _ (k * 4 + 1) _ _ m3;have z2 := frozen_of_row w3 _ (k * 4 + 2) _ _ m3;have z3 := frozen_of_row w3 _ (k * 4 + 3) _ _ m3;have zb := frozen_of_row w3 _ 3 _ _ b1;have d0 := cell_of_block' (i := 0) b1 _ rfl;have d1 := cell_of_block' (i := 1) b1 _ rfl;have d2 := cell_of_block' (i := 2) b1 _ rfl;have d3 := cell_of_block' (i := 3) b1 _ rfl;clear b1 m1 m2 m3 g0 g1 g2 g3 hrl;have hne : w.heap.size ≠ wr.heap.size := by omega
   have hne2 : wr.heap.size ≠ w.heap.size := by omega
   go_wp2_with fail
   go_roundw
   case rel => exact ⟨k + 1, by omega, by go_num, HX.out⟩
   case measure => simp [intOf]; omega
  ·have hke : k = l.length := by omega
   subst hke;have HF := Lib.hid (hinv.finish (by omega));clear hinv;go_wp2_with fail
   go_ret
   exact ⟨_, rfl, HF.out.1, HF.out.2⟩
theorem copied_any (l : List V) : CopyAt l := copied_of l (fun x _hx => copied_any x.list)
 termination_by SizeOf.sizeOf l
 decreasing_by
  have := List.sizeOf_lt_of_mem _hx
  cases x with
  | mk k n s m => simp only [V.mk.sizeOf_spec, V.list] at *; omega
end Go.Proofs.Ytjmnnjikmmglpaa
