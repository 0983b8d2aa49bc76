/-
  RegionU
-/
import Derived.Test.YtjohcnhiblfbnaaGreatDoorR05
namespace Go.Proofs.YtjohcnhiblfbnaaGreatDoor
open Go
section
variable {P : Program} {ops : Array Oper} {Q : Exit → Act → World → Prop} {md : Region.Mode}
def adrU (o : Oper) : Option Tmp := match o.op with
 | .store _ (.tmp d) _ => some d
 | _ => none
def Tie (a : Act) (o : Oper) (v : Value) : Prop := match o.dst, adrU o with
 | none, some d => a.tmps[d]? = some v
 | _, _ => True
def okOpsU (ops : Array Oper) (n : Nat) : Bool :=
 (List.range ops.size).all fun i => match ops[i]? with
  | none => true
  | some o => o.after.all (fun e => !Region.binds .any e || decide (e.on < i)) && (match o.dst with
   | none => (match adrU o with
    | none => true
    | some d => (List.range ops.size).all fun j => match ops[j]? with | some o' => !(o'.dst == some d) || o.after.any (fun e => Region.binds .any e && e.on == j) | none => true)
   | some d => decide (d < n) && (List.range ops.size).all fun j => j == i || (match ops[j]? with | some o' => !(o'.dst == some d) | none => true))
theorem okOpsU.at {n i : Nat} {o : Oper} (h : okOpsU ops n = true) (ho : ops[i]? = some o) : (∀ e ∈ o.after, Region.binds .any e = true → e.on < i) ∧ (∀ d, o.dst = some d → d < n ∧ ∀ j o', ops[j]? = some o' → j ≠ i → o'.dst ≠ some d) ∧
  (∀ d, o.dst = none → adrU o = some d → ∀ j o', ops[j]? = some o' → o'.dst = some d → ∃ e ∈ o.after, Region.binds .any e = true ∧ e.on = j) := by
 unfold okOpsU at h
 rw [List.all_eq_true] at h
 have h1 := h i (List.mem_range.2 (Array.getElem?_eq_some_iff.1 ho).1)
 rw [ho] at h1
 simp only [Bool.and_eq_true] at h1
 obtain ⟨g3, g4⟩ := h1
 refine ⟨fun e he hb => (by have h := Array.all_eq_true_iff_forall_mem.1 g3 e he; rw [hb] at h; simpa using h), fun d hd => ?_, fun d hd ha j o' hj he => ?_⟩
 ·rw [hd] at g4
  simp only [Bool.and_eq_true] at g4
  refine ⟨of_decide_eq_true g4.1, fun j o' hj hne he => ?_⟩
  have h2 := List.all_eq_true.1 g4.2 j (List.mem_range.2 (Array.getElem?_eq_some_iff.1 hj).1)
  rw [hj] at h2
  simp [hne, he] at h2
 ·rw [hd, ha] at g4
  have h2 := List.all_eq_true.1 g4 j (List.mem_range.2 (Array.getElem?_eq_some_iff.1 hj).1)
  rw [hj] at h2
  simp only [he, beq_self_eq_true, Bool.not_true, Bool.false_or] at h2
  obtain ⟨e, h3, h4⟩ := Array.any_eq_true'.1 h2
  simp only [Bool.and_eq_true, beq_iff_eq] at h4
  exact ⟨e, h3, h4.1, h4.2⟩
def StepU (P : Program) (md : Region.Mode) (ops : Array Oper) (A : Act) (F : World → Nat → Value → Prop) (G : World → Prop) (Q : Exit → Act → World → Prop) (i : Nat) (o : Oper) : Prop :=
 ∀ (a : Act) (w : World), Off ops A a → G w →
  (∀ (j : Nat) (o' : Oper) (d : Tmp), (o.after.any fun e => Region.binds md e && e.on == j) = true → ops[j]? = some o' → o'.dst = some d → ∃ v, a.tmps[d]? = some v ∧ F w j v) →
  ∀ K : Act → World → Prop, Shut (∀ v w', G w' → F w' i v → (∀ j u, F w j u → F w' j u) → (_ : Tie a o v := by exact True.intro) → K (a.put o.dst v) w') → if Region.wanted o (yielded ops a.tmps) = true then Oper.wp P o a w K Q else K (a.put o.dst undef) w
def StepsU (P : Program) (md : Region.Mode) (ops : Array Oper) (A : Act) (F : World → Nat → Value → Prop) (G : World → Prop) (Q : Exit → Act → World → Prop) : Nat → List Oper → Prop
 | _, [] => True
 | i, o :: os => StepU P md ops A F G Q i o ∧ StepsU P md ops A F G Q (i + 1) os
theorem StepsU.at {A : Act} {F : World → Nat → Value → Prop} {G : World → Prop} : ∀ (os : List Oper) (k i : Nat) (o : Oper), StepsU P md ops A F G Q k os → os[i]? = some o → StepU P md ops A F G Q (k + i) o
 | [], _, _, _, _, h => by simp at h
 | x :: os, k, 0, o, hs, h => by simp at h; subst h; exact hs.1
 | x :: os, k, i + 1, o, hs, h => by
  have := StepsU.at os (k + 1) i o hs.2 (by simpa using h)
  rw [show k + (i + 1) = k + 1 + i by omega]; exact this
def ResU (F : World → Nat → Value → Prop) (a : Act) (w : World) (i : Nat) (o : Oper) : Prop := (∀ d, o.dst = some d → ∃ v, a.tmps[d]? = some v ∧ F w i v) ∧ (o.dst = none → ∃ v, F w i v ∧ ∀ d, adrU o = some d → a.tmps[d]? = some v)
theorem wp_region_factsU {id : Nat} {A : Act} {w : World} (hm : P.follows .mixedOrders = true) (n : Nat) (hn : A.tmps.size = n) (hok : okOpsU ops n = true) (F : World → Nat → Value → Prop) (G : World → Prop) (hG : G w.drew)
  (hsteps : StepsU P .any ops A F G Q 0 ops.toList)
  (hend : ∀ a w, Off ops A a → G w → (∀ (i : Nat) (o : Oper) (d : Tmp), ops[i]? = some o → o.dst = some d → ∃ v, a.tmps[d]? = some v ∧ F w i v) → (∀ (i : Nat) (o : Oper), ops[i]? = some o → o.dst = none → ∃ v, F w i v ∧ ∀ d, adrU o = some d → a.tmps[d]? = some v) → Q .normal a w) :
  (Code.region id ops true).wp P Q A w := by
 refine wp_region_any hm (wpAny_inv (J := fun listed a w => listed.size = ops.size ∧ Off ops A a ∧ G w ∧ (∀ (i : Nat) (o : Oper), ops[i]? = some o → listed.getD i false = true → ∀ e ∈ o.after, Region.binds .any e = true → listed.getD e.on false = true) ∧ ∀ (i : Nat) (o : Oper), ops[i]? = some o → listed.getD i false = true → ResU F a w i o) ?_ ?_ _ _ _ _ ?_ ?_)
 ·rintro listed a w i ⟨hsz, hoff, hg, hcl, hf⟩ hi
  obtain ⟨h1, o, ho, hall⟩ := mem_ready.1 hi
  obtain ⟨-, k4, -⟩ := okOpsU.at hok ho
  have hin := getD_lt h1
  have hlf : listed.getD i false = false := by
   have : i < listed.size := hin
   simp [this] at h1 ⊢; exact h1
  have hcl' : ∀ (j : Nat) (o' : Oper), ops[j]? = some o' → (listed.setIfInBounds i true).getD j false = true → ∀ e ∈ o'.after, Region.binds .any e = true → (listed.setIfInBounds i true).getD e.on false = true := by
   intro j o' ho' hl e he hb
   have hold : listed.getD e.on false = true := by
    by_cases ej : j = i
    ·subst ej
     obtain rfl : o' = o := Option.some.inj (ho'.symm.trans ho)
     exact hall e he hb
    ·rw [getD_set_ne false (fun h => ej h.symm)] at hl
     exact hcl j o' ho' hl e he hb
   by_cases ei : e.on = i
   ·rw [ei] at hold; rw [hlf] at hold; cases hold
   ·rw [getD_set_ne false (fun h => ei h.symm)]; exact hold
  have hst := StepsU.at ops.toList 0 i o hsteps (by simpa using ho)
  rw [Nat.zero_add] at hst
  unfold wpOp
  rw [ho]
  simp only
  have key := hst a w hoff hg (fun j o' d' hj ho' hd' => by
   obtain ⟨e, he, hb⟩ := Array.any_eq_true'.1 hj
   simp only [Bool.and_eq_true, beq_iff_eq] at hb
   exact (hf j o' ho' (by rw [← hb.2]; exact hall e he hb.1)).1 d' hd') (fun a' w' => (listed.setIfInBounds i true).size = ops.size ∧ Off ops A a' ∧ G w' ∧ (∀ (i_1 : Nat) (o : Oper), ops[i_1]? = some o → (listed.setIfInBounds i true).getD i_1 false = true → ∀ e ∈ o.after, Region.binds .any e = true → (listed.setIfInBounds i true).getD e.on false = true) ∧ ∀ (j : Nat) (o : Oper), ops[j]? = some o → (listed.setIfInBounds i true).getD j false = true → ResU F a' w' j o) (fun v w' hg' hf' hstay htie => by
   cases k2 : o.dst with
   | none =>
    refine ⟨by rw [Array.size_setIfInBounds]; exact hsz, hoff, hg', hcl', fun j o' ho' hl => ?_⟩
    by_cases e : j = i
    ·subst e
     obtain rfl : o' = o := Option.some.inj (ho'.symm.trans ho)
     exact ⟨fun d hd => (by rw [k2] at hd; cases hd), fun _ => ⟨v, hf', fun d hd => (by rw [Tie, k2, hd] at htie; exact htie)⟩⟩
    ·rw [getD_set_ne false (fun h => e h.symm)] at hl
     obtain ⟨r1, r2⟩ := hf j o' ho' hl
     exact ⟨fun d hd => (let ⟨u, hu, hF⟩ := r1 d hd; ⟨u, hu, hstay j u hF⟩), fun hd => (let ⟨u, hF, hT⟩ := r2 hd; ⟨u, hstay j u hF, hT⟩)⟩
   | some d =>
    obtain ⟨k3, k5⟩ := k4 d k2
    refine ⟨by rw [Array.size_setIfInBounds]; exact hsz, hoff.put ho k2 v, hg', hcl', fun j o' ho' hl => ?_⟩
    by_cases e : j = i
    ·subst e
     obtain rfl : o' = o := Option.some.inj (ho'.symm.trans ho)
     refine ⟨fun d' hd' => ?_, fun hd' => by rw [k2] at hd'; cases hd'⟩
     obtain rfl : d' = d := Option.some.inj (hd'.symm.trans k2)
     refine ⟨v, ?_, hf'⟩
     show (a.tmps.setIfInBounds d' v)[d']? = _
     rw [Array.getElem?_setIfInBounds, if_pos rfl, if_pos (by rw [hoff.size, hn]; exact k3)]
    ·rw [getD_set_ne false (fun h => e h.symm)] at hl
     obtain ⟨r1, r2⟩ := hf j o' ho' hl
     refine ⟨fun d' hd' => ?_, fun hd => (let ⟨u, hF, hT⟩ := r2 hd; ⟨u, hstay j u hF, fun d' hd' => ?_⟩)⟩
     case refine_2 =>
      have hne : d ≠ d' := fun h => by
       obtain ⟨e, he, hb, heo⟩ := (okOpsU.at hok ho').2.2 d' hd hd' i o ho (by rw [k2, h])
       have := hcl j o' ho' hl e he hb
       rw [heo, hlf] at this; cases this
      show (a.tmps.setIfInBounds d v)[d']? = _
      rw [Array.getElem?_setIfInBounds, if_neg hne]; exact hT d' hd'
     obtain ⟨u, hu, hF⟩ := r1 d' hd'
     refine ⟨u, ?_, hstay j u hF⟩
     have hne : d ≠ d' := fun h => k5 j o' ho' e (by rw [hd', h])
     show (a.tmps.setIfInBounds d v)[d']? = _
     rw [Array.getElem?_setIfInBounds, if_neg hne]; exact hu)
  split
  ·rename_i hw; rw [if_pos hw] at key; exact .inl key
  ·rename_i hw; rw [if_neg hw] at key; exact key
 ·rintro listed a w ⟨hsz, hoff, hg, -, hf⟩ hr
  have all : ∀ i, i < ops.size → listed.getD i false = true := by
   intro i
   induction i using Nat.strongRecOn with
   | _ i ih =>
    intro hi
    cases hl : listed.getD i true with
    | true => simpa [hsz, hi] using hl
    | false =>
     have ho : ops[i]? = some ops[i] := Array.getElem?_eq_getElem hi
     have : i ∈ Region.ready .any ops listed := mem_ready.2 ⟨hl, ops[i], ho, fun e he hb => ih e.on ((okOpsU.at hok ho).1 e he hb) (Nat.lt_trans ((okOpsU.at hok ho).1 e he hb) hi)⟩
     rw [hr] at this; cases this
  exact hend a w hoff hg (fun i o d ho hd => (hf i o ho (all i (Array.getElem?_eq_some_iff.1 ho).1)).1 d hd) (fun i o ho hd => (hf i o ho (all i (Array.getElem?_eq_some_iff.1 ho).1)).2 hd)
 ·exact Nat.le_trans List.countP_le_length (by simp)
 ·exact ⟨by simp, Off.refl _ _, hG, fun i o _ hl => (by rw [none_listed] at hl; cases hl), fun i o _ hl => (by rw [none_listed] at hl; cases hl)⟩
end
end Go.Proofs.YtjohcnhiblfbnaaGreatDoor
