/-
  RegionP, WBuilder
-/
import Derived.Test.YtgjemmdhamkngaaGreatDoorK09
import Derived.Test.YtgjemmdhamkngaaGreatDoorK04
import Derived.WalkKit
import Derived.WalkSpells
import Derived.Lib.FrozenHead2
import Derived.Lib.OthersKept
namespace Go.Proofs.YtgjemmdhamkngaaGreatDoor
open Go
section
variable {P : Program} {ops : Array Oper} {Q : Exit → Act → World → Prop}
def okEarly (ops : Array Oper) (t : Nat) (early : Nat → Bool) : Bool :=
 decide (t + 1 < ops.size) && (List.range ops.size).all fun i => !early i || (decide (i < t) && (List.range ops.size).any fun j => (j == t || early j) && (match ops[j]? with | some o' => o'.after.any (fun e => Region.binds .any e && e.on == i) | none => false))
theorem okEarly.at {t i : Nat} {early : Nat → Bool} (h : okEarly ops t early = true) (hi : i < ops.size) (he : early i = true) : i < t ∧ ∃ (j : Nat) (o' : Oper), (j = t ∨ early j = true) ∧ ops[j]? = some o' ∧ ∃ e ∈ o'.after, Region.binds .any e = true ∧ e.on = i := by
 unfold okEarly at h
 simp only [Bool.and_eq_true, List.all_eq_true] at h
 have h1 := h.2 i (List.mem_range.2 hi)
 rw [he] at h1
 simp only [Bool.not_true, Bool.false_or, Bool.and_eq_true, decide_eq_true_eq] at h1
 refine ⟨h1.1, ?_⟩
 obtain ⟨j, _, hj2⟩ := List.any_eq_true.1 h1.2
 simp only [Bool.and_eq_true, Bool.or_eq_true, beq_iff_eq] at hj2
 obtain ⟨g1, g2⟩ := hj2
 split at g2
 ·rename_i o' ho'
  obtain ⟨e, hee, hb⟩ := Array.any_eq_true'.1 g2
  simp only [Bool.and_eq_true, beq_iff_eq] at hb
  exact ⟨j, o', g1, ho', e, hee, hb.1, hb.2⟩
 ·cases g2
def StepP (P : Program) (ops : Array Oper) (A : Act) (F : Bool → World → Nat → Value → Prop) (G : Bool → World → Prop) (Q : Exit → Act → World → Prop) (ph : Bool) (i : Nat) (o : Oper) : Prop :=
 ∀ (a : Act) (w : World), Off ops.pop A a → G ph w →
  (∀ (j : Nat) (o' : Oper) (d : Tmp), (o.after.any fun e => Region.binds .any e && e.on == j) = true → ops[j]? = some o' → o'.dst = some d → ∃ v, a.tmps[d]? = some v ∧ F ph w j v) →
  ∀ K : Act → World → Prop, Shut (∀ v w', G ph w' → F ph w' i v → (∀ j u, F ph w j u → F ph w' j u) → K (a.put o.dst v) w') → if Region.wanted o (yielded ops a.tmps) = true then Oper.wp P o a w K Q else K (a.put o.dst undef) w
def StepT (P : Program) (ops : Array Oper) (A : Act) (F : Bool → World → Nat → Value → Prop) (G : Bool → World → Prop) (Q : Exit → Act → World → Prop) (i : Nat) (o : Oper) : Prop :=
 ∀ (a : Act) (w : World), Off ops.pop A a → G false w →
  (∀ (j : Nat) (o' : Oper) (d : Tmp), (o.after.any fun e => Region.binds .any e && e.on == j) = true → ops[j]? = some o' → o'.dst = some d → ∃ v, a.tmps[d]? = some v ∧ F false w j v) →
  ∀ K : Act → World → Prop, Shut (∀ v w', G true w' → F true w' i v → (∀ j u, j ≠ i → F false w j u → F true w' j u) → K (a.put o.dst v) w') → if Region.wanted o (yielded ops a.tmps) = true then Oper.wp P o a w K Q else K (a.put o.dst undef) w
def StepsP (P : Program) (ops : Array Oper) (A : Act) (F : Bool → World → Nat → Value → Prop) (G : Bool → World → Prop) (Q : Exit → Act → World → Prop) (t : Nat) (early : Nat → Bool) : Nat → List Oper → Prop
 | _, [] => True
 | i, o :: os => (match i == t, early i with
   | true, _ => StepT P ops A F G Q i o
   | false, true => StepP P ops A F G Q false i o
   | false, false => ∀ ph, StepP P ops A F G Q ph i o) ∧ StepsP P ops A F G Q t early (i + 1) os
theorem StepsP.at {A : Act} {F : Bool → World → Nat → Value → Prop} {G : Bool → World → Prop} {t : Nat} {early : Nat → Bool} : ∀ (os : List Oper) (k i : Nat) (o : Oper), StepsP P ops A F G Q t early k os → os[i]? = some o →
  (match k + i == t, early (k + i) with
   | true, _ => StepT P ops A F G Q (k + i) o
   | false, true => StepP P ops A F G Q false (k + i) o
   | false, false => ∀ ph, StepP P ops A F G Q ph (k + i) o)
 | [], _, _, _, _, h => by simp at h
 | x :: os, k, 0, o, hs, h => by simp at h; subst h; exact hs.1
 | x :: os, k, i + 1, o, hs, h => by
  have := StepsP.at os (k + 1) i o hs.2 (by simpa using h)
  rw [show k + (i + 1) = k + 1 + i by omega]; exact this
theorem wp_region_factsP {id : Nat} {A : Act} {w : World} (hm : P.follows .mixedOrders = true) (n : Nat) (hn : A.tmps.size = n) (hok : okOpsL ops n = true) (t : Nat) (early : Nat → Bool) (het : okEarly ops t early = true) (F : Bool → World → Nat → Value → Prop) (G : Bool → World → Prop) (hG : G false w.drew)
  (hsteps : StepsP P ops A F G Q t early 0 ops.toList.dropLast)
  {o : Oper} (hback : ops.back? = some o) (hlast : ∀ a w, Off ops.pop A a → G true w → (∀ (i : Nat) (o : Oper) (d : Tmp), i + 1 < ops.size → ops[i]? = some o → o.dst = some d → ∃ v, a.tmps[d]? = some v ∧ F true w i v) → if Region.wanted o (yielded ops a.tmps) = true then Oper.wp P o a w (fun a' w' => Q .normal a' w') Q else Q .normal (a.put o.dst undef) w) :
  (Code.region id ops true).wp P Q A w := by
 have htl : t + 1 < ops.size := by unfold okEarly at het; simp only [Bool.and_eq_true, decide_eq_true_eq] at het; exact het.1
 refine wp_region_any hm (wpAny_inv (J := fun listed a w => listed.size = ops.size ∧ ((listed.getD (ops.size - 1) false = false ∧ Off ops.pop A a ∧ G (listed.getD t false) w ∧ (∀ (i : Nat) (o : Oper), ops[i]? = some o → listed.getD i false = true → ∀ e ∈ o.after, Region.binds .any e = true → listed.getD e.on false = true) ∧
   ∀ (i : Nat) (o : Oper) (d : Tmp), ops[i]? = some o → o.dst = some d → listed.getD i false = true → ∃ v, a.tmps[d]? = some v ∧ F (listed.getD t false) w i v) ∨ ((∀ i, i < ops.size → listed.getD i false = true) ∧ Q .normal a w))) ?_ ?_ _ _ _ _ ?_ ?_)
 ·rintro listed a w i ⟨hsz, hJ⟩ hi
  obtain ⟨h1, o, ho, hall⟩ := mem_ready.1 hi
  have HBK := hback
  have hin := getD_lt h1
  have hlf : listed.getD i false = false := by
   have : i < listed.size := hin
   simp [this] at h1 ⊢; exact h1
  rcases hJ with ⟨hl0, hoff, hg, hcl, hf⟩ | ⟨hal, -⟩
  case inr => rw [hal i (by omega)] at hlf; cases hlf
  obtain ⟨kaft, krest⟩ := okOpsL.at hok ho
  by_cases hlt : i + 1 < ops.size
  ·obtain ⟨⟨d, k2, k3⟩, k4, -⟩ := krest hlt
   have hst := StepsP.at ops.toList.dropLast 0 i o hsteps (by rw [List.getElem?_dropLast, if_pos (by simp; omega)]; simpa using ho)
   rw [Nat.zero_add] at hst
   have up : ∀ q, listed.getD q false = true → (listed.setIfInBounds i true).getD q false = true := fun q hq => by
    by_cases e : i = q
    ·subst e; simp [hin]
    ·rw [getD_set_ne false e]; exact hq
   have closed : ∀ (i' : Nat) (o' : Oper), ops[i']? = some o' → (listed.setIfInBounds i true).getD i' false = true → ∀ e ∈ o'.after, Region.binds .any e = true → (listed.setIfInBounds i true).getD e.on false = true := fun i' o' ho' hl' e he hb => by
    by_cases e' : i' = i
    ·subst e'
     obtain rfl : o' = o := Option.some.inj (ho'.symm.trans ho)
     exact up _ (hall e he hb)
    ·rw [getD_set_ne false (fun h => e' h.symm)] at hl'
     exact up _ (hcl i' o' ho' hl' e he hb)
   have nl : (listed.setIfInBounds i true).getD (ops.size - 1) false = false := by rw [getD_set_ne false (by omega)]; exact hl0
   have dep : ∀ ph, ph = listed.getD t false → (∀ (j : Nat) (o' : Oper) (d : Tmp), (o.after.any fun e => Region.binds .any e && e.on == j) = true → ops[j]? = some o' → o'.dst = some d → ∃ v, a.tmps[d]? = some v ∧ F ph w j v) := fun ph hph j o' d' hj ho' hd' => by
    obtain ⟨e, he, hb⟩ := Array.any_eq_true'.1 hj
    simp only [Bool.and_eq_true, beq_iff_eq] at hb
    rw [hph]
    exact hf j o' d' ho' hd' (by rw [← hb.2]; exact hall e he hb.1)
   have facts : ∀ (ph ph' : Bool) (v : Value) (w' : World), ph = listed.getD t false → F ph' w' i v → (∀ j u, j ≠ i → F ph w j u → F ph' w' j u) → ∀ (j : Nat) (o' : Oper) (d' : Tmp), ops[j]? = some o' → o'.dst = some d' → (listed.setIfInBounds i true).getD j false = true → ∃ u, (a.put o.dst v).tmps[d']? = some u ∧ F ph' w' j u := fun ph ph' v w' hph hf' hstay j o' d' ho' hd' hl => by
    rw [k2]
    by_cases e : j = i
    ·subst e
     obtain rfl : o' = o := Option.some.inj (ho'.symm.trans ho)
     obtain rfl : d' = d := Option.some.inj (hd'.symm.trans k2)
     refine ⟨v, ?_, hf'⟩
     show (a.tmps.setIfInBounds d' v)[d']? = _
     rw [Array.getElem?_setIfInBounds, if_pos rfl, if_pos (by rw [hoff.size, hn]; exact k3)]
    ·rw [getD_set_ne false (fun h => e h.symm)] at hl
     obtain ⟨u, hu, hF⟩ := hf j o' d' ho' hd' hl
     rw [← hph] at hF
     refine ⟨u, ?_, hstay j u e hF⟩
     have hne : d ≠ d' := fun h => k4 j o' ho' e (by rw [hd', k2, h])
     show (a.tmps.setIfInBounds d v)[d']? = _
     rw [Array.getElem?_setIfInBounds, if_neg hne]; exact hu
   have offs : ∀ v, Off ops.pop A (a.put o.dst v) := fun v => by rw [k2]; exact hoff.put (i := i) (o := o) (by rw [Array.getElem?_pop, if_pos (by omega)]; exact ho) k2 v
   have fin : ∀ (K : Act → World → Prop), (if Region.wanted o (yielded ops a.tmps) = true then Oper.wp P o a w K Q else K (a.put o.dst undef) w) → (∀ a' w', K a' w' → (listed.setIfInBounds i true).size = ops.size ∧ (((listed.setIfInBounds i true).getD (ops.size - 1) false = false ∧ Off ops.pop A a' ∧ G ((listed.setIfInBounds i true).getD t false) w' ∧ (∀ (i' : Nat) (o : Oper), ops[i']? = some o → (listed.setIfInBounds i true).getD i' false = true → ∀ e ∈ o.after, Region.binds .any e = true → (listed.setIfInBounds i true).getD e.on false = true) ∧
     ∀ (j : Nat) (o : Oper) (d : Tmp), ops[j]? = some o → o.dst = some d → (listed.setIfInBounds i true).getD j false = true → ∃ v, a'.tmps[d]? = some v ∧ F ((listed.setIfInBounds i true).getD t false) w' j v) ∨ ((∀ i', i' < ops.size → (listed.setIfInBounds i true).getD i' false = true) ∧ Q .normal a' w'))) → wpOp P ops Q i (fun a' w' => (listed.setIfInBounds i true).size = ops.size ∧ (((listed.setIfInBounds i true).getD (ops.size - 1) false = false ∧ Off ops.pop A a' ∧ G ((listed.setIfInBounds i true).getD t false) w' ∧ (∀ (i' : Nat) (o : Oper), ops[i']? = some o → (listed.setIfInBounds i true).getD i' false = true → ∀ e ∈ o.after, Region.binds .any e = true → (listed.setIfInBounds i true).getD e.on false = true) ∧
     ∀ (j : Nat) (o : Oper) (d : Tmp), ops[j]? = some o → o.dst = some d → (listed.setIfInBounds i true).getD j false = true → ∃ v, a'.tmps[d]? = some v ∧ F ((listed.setIfInBounds i true).getD t false) w' j v) ∨ ((∀ i', i' < ops.size → (listed.setIfInBounds i true).getD i' false = true) ∧ Q .normal a' w'))) a w := by
    intro K key hK
    refine wpOp_mono (fun a' w' h => hK a' w' h) ?_
    unfold wpOp
    rw [ho]
    simp only
    split
    ·rename_i hw; rw [if_pos hw] at key; exact .inl key
    ·rename_i hw; rw [if_neg hw] at key; exact key
   by_cases hit : i = t
   ·subst hit
    simp only [beq_self_eq_true] at hst
    have hph : listed.getD i false = false := hlf
    have hnew : (listed.setIfInBounds i true).getD i false = true := by simp [hin]
    rw [hph] at hg
    refine fin (fun a' w' => ∃ v, a' = a.put o.dst v ∧ G true w' ∧ F true w' i v ∧ ∀ j u, j ≠ i → F false w j u → F true w' j u) (hst a w hoff hg (dep false hph.symm) _ fun v w' g1 g2 g3 => ⟨v, rfl, g1, g2, g3⟩) ?_
    rintro a' w' ⟨v, rfl, g1, g2, g3⟩
    refine ⟨by rw [Array.size_setIfInBounds]; exact hsz, .inl ⟨nl, offs v, by rw [hnew]; exact g1, closed, ?_⟩⟩
    rw [hnew]
    exact facts false true v w' hph.symm g2 g3
   ·have hnew : (listed.setIfInBounds i true).getD t false = listed.getD t false := getD_set_ne false hit
    have hbeq : (i == t) = false := by simpa using hit
    rw [hbeq] at hst
    -- what t hangs on has been, once t has
    have early_done : listed.getD t false = true → ∀ k q, q + k = t → 0 < k → early q = true → listed.getD q false = true := by
     intro hlt' k
     induction k using Nat.strongRecOn with
     | _ k ih =>
      intro q hq hk he
      obtain ⟨h2, j, o', hj, ho', e, hee, hb, hon⟩ := okEarly.at het (i := q) (by omega) he
      have hqj : q < j := by rw [← hon]; exact (okOpsL.at hok ho').1 e hee
      have hjl : listed.getD j false = true := by
       rcases hj with rfl | hj
       ·exact hlt'
       ·have hjt := (okEarly.at het (i := j) (Array.getElem?_eq_some_iff.1 ho').1 hj).1
        exact ih (t - j) (by omega) j (by omega) (by omega) hj
      rw [← hon]; exact hcl j o' ho' hjl e hee hb
    cases he : early i with
    | true =>
     rw [he] at hst
     simp only at hst
     have hph : listed.getD t false = false := by
      cases hq : listed.getD t false with
      | false => rfl
      | true =>
       have := early_done hq (t - i) i (by have := (okEarly.at het (by omega) he).1; omega) (by have := (okEarly.at het (by omega) he).1; omega) he
       rw [hlf] at this; cases this
     rw [hph] at hg hnew
     refine fin (fun a' w' => ∃ v, a' = a.put o.dst v ∧ G false w' ∧ F false w' i v ∧ ∀ j u, F false w j u → F false w' j u) (hst a w hoff hg (dep false hph.symm) _ fun v w' g1 g2 g3 => ⟨v, rfl, g1, g2, g3⟩) ?_
     rintro a' w' ⟨v, rfl, g1, g2, g3⟩
     refine ⟨by rw [Array.size_setIfInBounds]; exact hsz, .inl ⟨nl, offs v, by rw [hnew]; exact g1, closed, ?_⟩⟩
     rw [hnew]
     exact facts false false v w' hph.symm g2 (fun j u _ h => g3 j u h)
    | false =>
     rw [he] at hst
     simp only at hst
     refine fin (fun a' w' => ∃ v, a' = a.put o.dst v ∧ G (listed.getD t false) w' ∧ F (listed.getD t false) w' i v ∧ ∀ j u, F (listed.getD t false) w j u → F (listed.getD t false) w' j u) (hst (listed.getD t false) a w hoff hg (dep _ rfl) _ fun v w' g1 g2 g3 => ⟨v, rfl, g1, g2, g3⟩) ?_
     rintro a' w' ⟨v, rfl, g1, g2, g3⟩
     refine ⟨by rw [Array.size_setIfInBounds]; exact hsz, .inl ⟨nl, offs v, by rw [hnew]; exact g1, closed, ?_⟩⟩
     rw [hnew]
     exact facts _ _ v w' rfl g2 (fun j u _ h => g3 j u h)
  ·obtain rfl : i = ops.size - 1 := by have := (Array.getElem?_eq_some_iff.1 ho).1; omega
   have hoe := Option.some.inj (HBK.symm.trans (by rw [Array.back?_eq_getElem?]; exact ho))
   subst hoe
   have all : ∀ k j, j + k + 1 = ops.size → 0 < k → listed.getD j false = true := by
    intro k
    induction k using Nat.strongRecOn with
    | _ k ih =>
     intro j hj hk
     have hoj : ops[j]? = some (ops[j]'(by omega)) := Array.getElem?_eq_getElem _
     obtain ⟨-, hr⟩ := okOpsL.at hok hoj
     obtain ⟨-, -, j', o', hj', e, he, hb, hon⟩ := hr (by omega)
     have hlt' : j < j' := by rw [← hon]; exact (okOpsL.at hok hj').1 e he
     have hj'lt := (Array.getElem?_eq_some_iff.1 hj').1
     by_cases hL : j' = ops.size - 1
     ·subst hL
      obtain rfl := Option.some.inj (hj'.symm.trans ho)
      rw [← hon]; exact hall e he hb
     ·have := ih (ops.size - 1 - j') (by omega) j' (by omega) (by omega)
      rw [← hon]; exact hcl j' o' hj' this e he hb
   have ht1 : listed.getD t false = true := all (ops.size - 1 - t) t (by omega) (by omega)
   rw [ht1] at hg hf
   have key := hlast a w hoff hg (fun i' o' d' hi' ho' hd' => hf i' o' d' ho' hd' (all (ops.size - 1 - i') i' (by omega) (by omega)))
   have hop : wpOp P ops Q (ops.size - 1) (fun a' w' => Q .normal a' w') a w := by
    unfold wpOp
    rw [ho]
    simp only
    split
    ·rename_i hw; rw [if_pos hw] at key; exact .inl key
    ·rename_i hw; rw [if_neg hw] at key; exact key
   refine wpOp_mono (fun a' w' hq => ⟨by rw [Array.size_setIfInBounds]; exact hsz, .inr ⟨fun i' hi' => ?_, hq⟩⟩) hop
   by_cases e : ops.size - 1 = i'
   ·subst e; simp [hin]
   ·rw [getD_set_ne false e]; exact all (ops.size - 1 - i') i' (by omega) (by omega)
 ·rintro listed a w ⟨hsz, hJ⟩ hr
  rcases hJ with ⟨hl0, -⟩ | ⟨-, hq⟩
  case inr => exact hq
  exfalso
  have all : ∀ i, i < ops.size → listed.getD i false = true := by
   intro i
   induction i using Nat.strongRecOn with
   | _ i ih =>
    intro hi
    cases hl : listed.getD i true with
    | true => simpa [hsz, hi] using hl
    | false =>
     have ho : ops[i]? = some ops[i] := Array.getElem?_eq_getElem hi
     have : i ∈ Region.ready .any ops listed := mem_ready.2 ⟨hl, ops[i], ho, fun e he _ => ih e.on ((okOpsL.at hok ho).1 e he) (Nat.lt_trans ((okOpsL.at hok ho).1 e he) hi)⟩
     rw [hr] at this; cases this
  rw [all (ops.size - 1) (by omega)] at hl0
  cases hl0
 ·exact Nat.le_trans List.countP_le_length (by simp)
 ·exact ⟨by simp, .inl ⟨none_listed _ _, Off.refl _ _, by rw [none_listed]; exact hG, fun i o _ hl => (by rw [none_listed] at hl; cases hl), fun i o d _ _ hl => by rw [none_listed] at hl; cases hl⟩⟩
end
end Go.Proofs.YtgjemmdhamkngaaGreatDoor
namespace Go.Proofs.YtgjemmdhamkngaaGreatDoor.pw
open Go.RowKit
theorem infoBuilder : (Tryz.prog.info? 106).map (fun i => i.size) = some 2 := by kernel_rfl
theorem infoByte : (Tryz.prog.info? 5).map (fun i => (i.zero, i.size, i.bytes)) = some (some (.int .u8 0), 1, 1) := by kernel_rfl
set_option maxHeartbeats 1000000 in
set_option maxRecDepth 100000 in
theorem copyCheck_used (b : Nat) (w : World) (h0 : w.cell? ⟨b, 0, none⟩ = some (.pointer (some ⟨b, 0, none⟩))) :
  Calls Tryz.prog 108 #[.pointer (some ⟨b, 0, none⟩)] w fun e w' => e = .returned (.tuple #[]) ∧ w = w' := by
 obtain ⟨j, hj, _⟩ := Option.map_eq_some_iff.1 infoBuilder
 go_enter Tryz.func108, Tryz.ntmps108
 go_wp2
 rw [Lib.run_neq_ptr_same w _ Tryz.underlying103 hj]
 go_wp2
 go_end0
 exact ⟨rfl, rfl⟩
set_option maxHeartbeats 1000000 in
set_option maxRecDepth 100000 in
theorem copyCheck_fresh (b : Nat) (w : World) (h0 : w.cell? ⟨b, 0, none⟩ = some (.pointer none)) (hsh : w.shape? b = some (108, 2)) (hfz : w.frozen? ⟨b, 0, none⟩ = false) :
  Calls Tryz.prog 108 #[.pointer (some ⟨b, 0, none⟩)] w fun e w' => e = .returned (.tuple #[]) ∧ w' = w.setCell ⟨b, 0, none⟩ (.pointer (some ⟨b, 0, none⟩)) := by
 obtain ⟨j, hj, hjs⟩ := Option.map_eq_some_iff.1 infoBuilder
 go_enter Tryz.func108, Tryz.ntmps108
 go_wp2
 rw [Lib.run_to_unsafe w ⟨b, 0, none⟩ Tryz.underlying103 Tryz.underlying133 hj (by rw [hjs]; decide) hsh (Nat.zero_lt_succ 1)]
 simp only [Result.andThen]
 rw [Oper.upon_value]
 go_wp2
 rw [run_callFunc_extern Tryz.func125 (by kernel_rfl) (by kernel_rfl) (by kernel_rfl) (e := Extern.AbiNoEscape.same) (by kernel_rfl), Lib.run_noEscape]
 simp only [Result.andThen]
 rw [Oper.upon_value]
 go_wp2
 rw [Lib.run_from_unsafe w ⟨b, 0, none⟩ Tryz.underlying133 Tryz.underlying103 hj hsh (by kernel_rfl)]
 simp only [Result.andThen]
 rw [Oper.upon_value]
 go_wp2
 go_end0
 exact ⟨rfl, rfl⟩
def Wrote' (B b : Nat) (bs : List Value) (w w' : World) : Prop :=
 Lib.BuilderAtF 108 5 B b (.pointer (some ⟨b, 0, none⟩)) bs w' ∧ Below B w w' ∧ Lib.OthersKept 5 (some b) w w'
theorem copyCheck_any (B b : Nat) (bs : List Value) (w : World) (h : Lib.IsBuilderF 108 5 B b bs w) :
  Calls Tryz.prog 108 #[.pointer (some ⟨b, 0, none⟩)] w fun e w' => e = .returned (.tuple #[]) ∧ Wrote' B b bs w w' := by
 rcases h with h | h
 ·exact (copyCheck_fresh b w h.cell0 h.shape h.frozen0).mono fun e w' ⟨he, hw⟩ => ⟨he, hw ▸ ⟨h.used _, (Below.refl B w).setCell (p := ⟨b, 0, none⟩) h.1 _, (Lib.OthersKept.refl _ _ w).setCell ⟨b, 0, none⟩ rfl _⟩⟩
 ·exact (copyCheck_used b w h.cell0).mono fun e w' ⟨he, hw⟩ => ⟨he, hw ▸ ⟨h, Below.refl B _, Lib.OthersKept.refl _ _ _⟩⟩
theorem wrote_of {B b : Nat} {bs news : List Value} {v v' : Value} {w w1 w1' w2 : World} (hB : B ≤ b) (hBw : B ≤ w1.heap.size) (hbk : w1.heap[b]? = some (.cells #[.pointer (some ⟨b, 0, none⟩), v] 108 (0, 0)))
  (hown : w1'.ownsRowF B 5 1 v bs.length bs) (hne : v.ownBlock ≠ some b) (h1 : Below B w w1) (k1 : Lib.OthersKept 5 (some b) w w1) (hst : Below w1.heap.size w1 w1')
  (hown' : w2.ownsRowF B 5 1 v' (bs.length + news.length) (bs ++ news)) (hg : w1'.grownBy w2 v.ownBlock) :
  w2.heap[b]? = some (.cells #[.pointer (some ⟨b, 0, none⟩), v] 108 (0, 0)) ∧ Wrote' B b (bs ++ news) w (w2.setCell ⟨b, 1, none⟩ v') := by
 have hlt : b < w1.heap.size := (Array.getElem?_eq_some_iff.1 hbk).1
 have hs := hst.size
 have hb2 : w2.heap[b]? = some (.cells #[.pointer (some ⟨b, 0, none⟩), v] 108 (0, 0)) := by
  rw [hg.block b (by omega) (fun e => hne e.symm), hst.block b hlt]; exact hbk
 have kk : Lib.OthersKept 5 (some b) w w1' := fun k o hk hkb ho => by
  have := k1 k o hk hkb ho
  rw [hst.block k (Array.getElem?_eq_some_iff.1 this).1]; exact this
 refine ⟨hb2, Lib.BuilderAtF.put hB hb2 (bs' := bs ++ news) (by simpa using hown') (by decide), ?_, (kk.grown hg (Lib.ownsRowF_kind hown)).setCell ⟨b, 1, none⟩ rfl _⟩
 exact (((h1.trans (hst.mono hBw))).grown hg (by omega) (fun k hk => (hown.lt k hk).1)).setCell (p := ⟨b, 1, none⟩) hB _
set_option maxHeartbeats 2000000 in
set_option maxRecDepth 100000 in
theorem writeByte_any (B b : Nat) (bs : List Value) (c : Int) (w : World) (h : Lib.IsBuilderF 108 5 B b bs w) (hlen : bs.length + 1 ≤ 140737488355328) (hBw : B ≤ w.heap.size) :
  Calls Tryz.prog 86 #[.pointer (some ⟨b, 0, none⟩), .int .u8 c] w fun e w' => e = .returned .nilIface ∧ Wrote' B b (bs ++ [.int .u8 c]) w w' := by
 obtain ⟨i0, hi, hz0, hz1, hz2⟩ := info_parts infoByte
 go_enter Tryz.func86, Tryz.ntmps86
 go_wp2_with fail
 refine (copyCheck_any B b bs _ h).mono ?_
 rintro e w1 ⟨rfl, ⟨hB, v, hbk, hown, hne⟩, hb1, hk1⟩
 have hsz := hb1.size
 have c0 : w1.cell? ⟨b, 0, none⟩ = some (.pointer (some ⟨b, 0, none⟩)) := by rw [Lib.cell_of_heap hbk]; rfl
 have c1 : w1.cell? ⟨b, 1, none⟩ = some v := by rw [Lib.cell_of_heap hbk]; rfl
 go_wp2_with (at_builtin; refine wpList_append_ownF _ rfl _ _ 104 rfl B 5 i0 (.int .u8 0) 1 1 Tryz.underlying104 hi hz0 hz1 hz2 rfl (by decide) _ _ _ rfl (hown.alloc _) ⟨w1.heap.size, 0, none⟩ 1 1 [.int .u8 c] rfl rfl ?c1 ?c2 ?c3 ?c4 ?c5 ?_)
 case c1 =>
  intro j u hj
  match j, hj with
  | 0, hj => simp at hj; subst hj; simp [Addr.add]
 case c2 => intro u hu; simp at hu; subst hu; rfl
 case c3 => unfold maxLen; omega
 case c4 => omega
 case c5 => simp; omega
 intro v' w2 hown' hgrow _
 obtain ⟨hb2, hfin⟩ := wrote_of (news := [.int .u8 c]) hB (by omega) hbk (hown.alloc _) hne hb1 hk1 ((Below.refl _ w1).alloc (Nat.le_refl _) _) hown' hgrow
 have d1 : w2.cell? ⟨b, 1, none⟩ = some v := by rw [Lib.cell_of_heap hb2]; rfl
 have d0 : w2.cell? ⟨b, 0, none⟩ = some (.pointer (some ⟨b, 0, none⟩)) := by rw [Lib.cell_of_heap hb2]; rfl
 have f1 : w2.frozen? ⟨b, 1, none⟩ = false := Lib.frozen_of_heap hb2 1
 obtain ⟨g, n', cap, rfl⟩ : ∃ g n' cap, v' = .slice g n' cap := by
  rcases hown'.2 with ⟨hv, _⟩ | ⟨g, cap, cur, fz, hv, _⟩
  ·exact ⟨_, _, _, hv⟩
  ·exact ⟨_, _, _, hv⟩
 have HF := Lib.hid hfin; clear hfin
 go_wp2
 go_ret
 exact ⟨rfl, HF.out⟩
set_option maxHeartbeats 2000000 in
set_option maxRecDepth 100000 in
theorem writeString_any (B b : Nat) (bs : List Value) (s : ByteArray) (w : World) (h : Lib.IsBuilderF 108 5 B b bs w) (hlen : bs.length + s.size ≤ 140737488355328) (hBw : B ≤ w.heap.size) :
  Calls Tryz.prog 84 #[.pointer (some ⟨b, 0, none⟩), .string s] w fun e w' => e = .returned (.tuple #[.int .i64 s.size, .nilIface]) ∧ Wrote' B b (bs ++ Lib.strCells s) w w' := by
 obtain ⟨i0, hi, hz0, hz1, hz2⟩ := info_parts infoByte
 go_enter Tryz.func84, Tryz.ntmps84
 go_wp2_with fail
 refine (copyCheck_any B b bs _ h).mono ?_
 rintro e w1 ⟨rfl, ⟨hB, v, hbk, hown, hne⟩, hb1, hk1⟩
 have hsz := hb1.size
 have c0 : w1.cell? ⟨b, 0, none⟩ = some (.pointer (some ⟨b, 0, none⟩)) := by rw [Lib.cell_of_heap hbk]; rfl
 have c1 : w1.cell? ⟨b, 1, none⟩ = some v := by rw [Lib.cell_of_heap hbk]; rfl
 go_wp2_with (at_builtin; refine Lib.wpList_append_own_stringF _ rfl _ _ 104 9 rfl B 5 i0 Tryz.underlying104 Tryz.underlying9 hi hz0 hz1 hz2 _ _ _ rfl hown s rfl ?c3 ?c4 ?c5 ?_)
 case c3 => unfold maxLen; omega
 case c4 => omega
 case c5 => omega
 intro v' w2 hown' hgrow _
 obtain ⟨hb2, hfin⟩ := wrote_of (news := Lib.strCells s) hB (by omega) hbk hown hne hb1 hk1 (Below.refl _ w1) (by rw [Lib.strCells_length]; exact hown') hgrow
 have d1 : w2.cell? ⟨b, 1, none⟩ = some v := by rw [Lib.cell_of_heap hb2]; rfl
 have d0 : w2.cell? ⟨b, 0, none⟩ = some (.pointer (some ⟨b, 0, none⟩)) := by rw [Lib.cell_of_heap hb2]; rfl
 have f1 : w2.frozen? ⟨b, 1, none⟩ = false := Lib.frozen_of_heap hb2 1
 obtain ⟨g, n', cap, rfl⟩ : ∃ g n' cap, v' = .slice g n' cap := by
  rcases hown'.2 with ⟨hv, _⟩ | ⟨g, cap, cur, fz, hv, _⟩
  ·exact ⟨_, _, _, hv⟩
  ·exact ⟨_, _, _, hv⟩
 have HF := Lib.hid hfin; clear hfin
 go_wp2
 go_ret2
 exact ⟨rfl, HF.out⟩
def Wrote (B b : Nat) (acc : List UInt8) (w w' : World) : Prop :=
 Lib.IsBuilderF 108 5 B b (Lib.byteCells acc) w' ∧ Below B w w' ∧ Lib.OthersKept 5 (some b) w w'
theorem wbyte (B b : Nat) (acc : List UInt8) (c : UInt8) (w : World) (h : Lib.IsBuilderF 108 5 B b (Lib.byteCells acc) w) (hl : acc.length + 1 ≤ 140737488355328) (hB : B ≤ w.heap.size) :
  Calls Tryz.prog 86 #[.pointer (some ⟨b, 0, none⟩), .int .u8 c.toNat] w fun e w' => e = .returned .nilIface ∧ Wrote B b (acc ++ [c]) w w' :=
 (writeByte_any B b _ _ w h (by simpa [Lib.byteCells_length] using hl) hB).mono fun e w' ⟨he, h1, h2, h3⟩ => ⟨he, Or.inr (by rw [Lib.byteCells_append]; exact h1), h2, h3⟩
theorem wstr (B b : Nat) (acc : List UInt8) (s : ByteArray) (w : World) (h : Lib.IsBuilderF 108 5 B b (Lib.byteCells acc) w) (hl : acc.length + s.size ≤ 140737488355328) (hB : B ≤ w.heap.size) :
  Calls Tryz.prog 84 #[.pointer (some ⟨b, 0, none⟩), .string s] w fun e w' => e = .returned (.tuple #[.int .i64 s.size, .nilIface]) ∧ Wrote B b (acc ++ s.data.toList) w w' :=
 (writeString_any B b _ _ w h (by simpa [Lib.byteCells_length] using hl) hB).mono fun e w' ⟨he, h1, h2, h3⟩ => ⟨he, Or.inr (by rw [Lib.byteCells_append, ← Lib.strCells_eq]; exact h1), h2, h3⟩
theorem Wrote.trans {B b : Nat} {acc acc' : List UInt8} {w w1 w2 : World} (h : Wrote B b acc w w1) (k : Wrote B b acc' w1 w2) : Wrote B b acc' w w2 :=
 ⟨k.1, h.2.1.trans k.2.1, h.2.2.trans k.2.2⟩
theorem Wrote.start {B b : Nat} {acc : List UInt8} {w w' : World} (h : Lib.IsBuilderF 108 5 B b (Lib.byteCells acc) w) (hB : B ≤ w.heap.size) (hs : Stands w w') : Wrote B b acc w w' :=
 ⟨builder_kept h hs.kept, Below.mono hs hB, hs.others _ _⟩
theorem cellsByte : Tryz.prog.cellsOf 5 = 1 := by kernel_rfl
set_option maxHeartbeats 1000000 in
set_option maxRecDepth 100000 in
theorem string_some (B b : Nat) (l : List UInt8) (w : World) (h : Lib.IsBuilderF 108 5 B b (Lib.byteCells l) w) (h0 : l ≠ []) :
  Calls Tryz.prog 76 #[.pointer (some ⟨b, 0, none⟩)] w fun e w' => e = .returned (.string ⟨l.toArray⟩) ∧ Below B w w' := by
 obtain ⟨p, hp, hAt⟩ : ∃ p, (p = .pointer none ∨ p = .pointer (some ⟨b, 0, none⟩)) ∧ Lib.BuilderAtF 108 5 B b p (Lib.byteCells l) w := by
  rcases h with h | h
  ·exact ⟨_, .inl rfl, h⟩
  ·exact ⟨_, .inr rfl, h⟩
 obtain ⟨hB, v, hbk, hown, hne⟩ := hAt
 have hl0 : l.length ≠ 0 := by simpa using h0
 rw [Lib.byteCells_length] at hown
 obtain ⟨g, cap, cur, fz, rfl, hbg, hg, hfz, hnc, hcm, hcs, htake⟩ : ∃ g cap cur fz, v = .slice (some ⟨g, 0, none⟩) l.length cap ∧ B ≤ g ∧ w.heap[g]? = some (.cells cur 5 fz) ∧ fz.2 ≤ l.length * 1 ∧ l.length ≤ cap ∧ cap ≤ maxLen ∧ cur.size = cap * 1 ∧ cur.toList.take (l.length * 1) = Lib.byteCells l := by
  rcases hown.2 with ⟨_, hz⟩ | ⟨g, cap, cur, fz, hv, r⟩
  ·exact absurd hz hl0
  ·exact ⟨g, cap, cur, fz, hv, r⟩
 have c1 : w.drew.cell? ⟨b, 1, none⟩ = some (.slice (some ⟨g, 0, none⟩) l.length cap) := by
  have : w.drew.heap[b]? = some (.cells #[p, .slice (some ⟨g, 0, none⟩) l.length cap] 108 (0, 0)) := hbk
  rw [Lib.cell_of_heap this]; rfl
 have hSD : (Builtin.unsafeSliceData_ #[104] 128 #[.slice (some ⟨g, 0, none⟩) l.length cap]).run Tryz.prog w.drew = .ok (.pointer (some ⟨g, 0, none⟩)) w.drew :=
  Lib.run_unsafeSliceData_row _ _ _ _ _ _ (by omega)
 have hUS : (Builtin.unsafeString_ #[128, 3] 9 #[.pointer (some ⟨g, 0, none⟩), .int .i64 l.length]).run Tryz.prog w.drew = .ok (.string ⟨l.toArray⟩) (w.drew.freeze ⟨g, 0, none⟩ l.length) := by
  refine Lib.run_unsafeString_row w.drew 128 3 9 5 Tryz.underlying128 cellsByte g cur.size (by have hg' : w.drew.heap[g]? = some (.cells cur 5 fz) := hg; simp [World.shape?, hg']) l h0 (by omega) (by unfold maxLen at hcm; omega) ?_
  intro j x hx
  have := hown.cells (g := g) rfl j (.int .u8 x.toNat) (by simp [Lib.byteCells, hx])
  exact this
 have HG := Lib.hid hbg
 clear hown hne htake hcs hnc hcm hfz hbg hbk hp
 have mixed : Tryz.prog.follows .mixedOrders = true := by kernel_rfl
 go_enter Tryz.func76, Tryz.ntmps76
 go_wp2
 go_region_o
 all_goals (go_wp2; go_ret; exact ⟨rfl, Lib.below_freeze (Below.drew (Below.refl B w)) (p := ⟨g, 0, none⟩) HG.out _⟩)
end Go.Proofs.YtgjemmdhamkngaaGreatDoor.pw
