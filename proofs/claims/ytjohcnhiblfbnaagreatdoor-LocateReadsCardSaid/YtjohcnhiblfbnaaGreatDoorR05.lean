/-
  RegionFA, Region, RegionG, RegionL, FlatKit, RowKit, Pick, RawSix
-/
import Derived.Test.YtjohcnhiblfbnaaGreatDoorR03
import Derived.Test.YtjohcnhiblfbnaaGreatDoorR01
import Derived.Test.YtjohcnhiblfbnaaGreatDoorR04
import Derived.Orders
import Derived.Deep.RegionHeld
import Derived.WalkKit
import Derived.WalkSpells
import Derived.WalkLawsBesides
namespace Go.Proofs.YtjohcnhiblfbnaaGreatDoor
open Go.RowKit
inductive FE where
 | e (c : Value)
 | p (P : World → Value → Prop)
 | o
def FE.ok (w : World) (v : Value) : FE → Prop
 | .e c => v = c
 | .p P => P w v
 | .o => True
def FA (l : List FE) (w : World) (i : Nat) (v : Value) : Prop := FE.ok w v (l.getD i .o)
def FSt (w w' : World) : List FE → Prop
 | [] => True
 | .e _ :: l => FSt w w' l
 | .p P :: l => (∀ v, P w v → P w' v) ∧ FSt w w' l
 | .o :: l => FSt w w' l
theorem fSt : ∀ {l : List FE} {w w' : World}, FSt w w' l → ∀ i v, FA l w i v → FA l w' i v
 | [], _, _, _, _, _, _ => trivial
 | .e _ :: _, _, _, _, 0, _, g => g
 | .p _ :: _, _, _, h, 0, v, g => h.1 v g
 | .o :: _, _, _, _, 0, _, _ => trivial
 | .e _ :: l, _, _, h, i + 1, v, g => fSt (l := l) h i v g
 | .p _ :: l, _, _, h, i + 1, v, g => fSt (l := l) h.2 i v g
 | .o :: l, _, _, h, i + 1, v, g => fSt (l := l) h i v g
inductive FP where
 | e (c : Value)
 | p (P : World → Value → Prop)
 | t (P : World → Value → Prop)
 | o
def FP.ok (ph : Bool) (w : World) (v : Value) : FP → Prop
 | .e c => v = c
 | .p P => ph = false → P w v
 | .t P => ph = true → P w v
 | .o => True
def FB (l : List FP) (ph : Bool) (w : World) (i : Nat) (v : Value) : Prop := FP.ok ph w v (l.getD i .o)
def FStP (w w' : World) : List FP → Prop
 | [] => True
 | .e _ :: l => FStP w w' l
 | .p P :: l => (∀ v, P w v → P w' v) ∧ FStP w w' l
 | .t _ :: l => FStP w w' l
 | .o :: l => FStP w w' l
theorem fStP : ∀ {l : List FP} {w w' : World}, FStP w w' l → ∀ i v, FB l false w i v → FB l false w' i v
 | [], _, _, _, _, _, _ => trivial
 | .e _ :: _, _, _, _, 0, _, g => g
 | .p _ :: _, _, _, h, 0, v, g => fun e => h.1 v (g e)
 | .t _ :: _, _, _, _, 0, _, _ => fun e => absurd e (by decide)
 | .o :: _, _, _, _, 0, _, _ => trivial
 | .e _ :: l, _, _, h, i + 1, v, g => fStP (l := l) h i v g
 | .p _ :: l, _, _, h, i + 1, v, g => fStP (l := l) h.2 i v g
 | .t _ :: l, _, _, h, i + 1, v, g => fStP (l := l) h i v g
 | .o :: l, _, _, h, i + 1, v, g => fStP (l := l) h i v g
def noT : List FP → Bool
 | [] => true
 | .t _ :: _ => false
 | .e _ :: l | .p _ :: l | .o :: l => noT l
def oneT : List FP → Nat → Bool
 | [], _ => true
 | .t _ :: l, 0 => noT l
 | .t _ :: _, _ + 1 => false
 | .e _ :: l, 0 | .p _ :: l, 0 | .o :: l, 0 => noT l
 | .e _ :: l, i + 1 | .p _ :: l, i + 1 | .o :: l, i + 1 => oneT l i
theorem noT_pass : ∀ {l : List FP}, noT l = true → ∀ {w w' : World} i v, FB l false w i v → FB l true w' i v
 | [], _, _, _, _, _, _ => trivial
 | .e _ :: _, _, _, _, 0, _, g => g
 | .p _ :: _, _, _, _, 0, _, _ => fun e => absurd e (by decide)
 | .o :: _, _, _, _, 0, _, _ => trivial
 | .e _ :: l, h, _, _, i + 1, v, g => noT_pass (l := l) h i v g
 | .p _ :: l, h, _, _, i + 1, v, g => noT_pass (l := l) h i v g
 | .o :: l, h, _, _, i + 1, v, g => noT_pass (l := l) h i v g
theorem fPass : ∀ {l : List FP} {t : Nat}, oneT l t = true → ∀ {w w' : World} i v, i ≠ t → FB l false w i v → FB l true w' i v
 | [], _, _, _, _, _, _, _, _ => trivial
 | .t _ :: _, 0, _, _, _, 0, _, n, _ => absurd rfl n
 | .t _ :: l, 0, h, _, _, i + 1, v, _, g => noT_pass (l := l) h i v g
 | .e _ :: _, _, _, _, _, 0, _, _, g => g
 | .p _ :: _, _, _, _, _, 0, _, _, _ => fun e => absurd e (by decide)
 | .o :: _, _, _, _, _, 0, _, _, _ => trivial
 | .e _ :: l, 0, h, _, _, i + 1, v, _, g => noT_pass (l := l) h i v g
 | .p _ :: l, 0, h, _, _, i + 1, v, _, g => noT_pass (l := l) h i v g
 | .o :: l, 0, h, _, _, i + 1, v, _, g => noT_pass (l := l) h i v g
 | .e _ :: l, t + 1, h, _, _, i + 1, v, n, g => fPass (l := l) (t := t) h i v (fun e => n (by rw [e])) g
 | .p _ :: l, t + 1, h, _, _, i + 1, v, n, g => fPass (l := l) (t := t) h i v (fun e => n (by rw [e])) g
 | .o :: l, t + 1, h, _, _, i + 1, v, n, g => fPass (l := l) (t := t) h i v (fun e => n (by rw [e])) g
end Go.Proofs.YtjohcnhiblfbnaaGreatDoor
namespace Go.Proofs.YtjohcnhiblfbnaaGreatDoor
open Go
theorem nn {i j : Nat} {q : Prop} (h : Nat.beq i j = false := by rfl) : i = j → q := fun e => by
 rw [e, Nat.beq_refl] at h; cases h
theorem countP_lt {p q : Nat → Bool} {i : Nat} (hpq : ∀ j, q j = true → p j = true) (hp : p i = true) (hq : q i = false) : ∀ l : List Nat, i ∈ l → l.countP q < l.countP p
 | [], hi => by cases hi
 | x :: l, hi => by
  rw [List.countP_cons, List.countP_cons]
  have hle : l.countP q ≤ l.countP p := List.countP_mono_left (fun j _ => hpq j)
  by_cases e : x = i
  ·subst e; rw [hp, hq]; simp; omega
  ·have hm : i ∈ l := by
    rcases List.mem_cons.1 hi with h | h
    ·exact absurd h.symm e
    ·exact h
   have := countP_lt hpq hp hq l hm
   have h2 : (if q x = true then 1 else 0) ≤ (if p x = true then 1 else 0) := by
    by_cases h : q x = true
    ·rw [if_pos h, if_pos (hpq x h)]; exact Nat.le_refl _
    ·rw [if_neg h]; omega
   omega
section
variable {P : Program} {ops : Array Oper} {Q : Exit → Act → World → Prop} {md : Region.Mode}
theorem getD_lt {listed : Array Bool} {i : Nat} (h : listed.getD i true = false) : i < listed.size := by
 rcases Nat.lt_or_ge i listed.size with h' | h'
 ·exact h'
 ·simp [Array.getElem?_eq_none h'] at h
theorem wpAny_inv (J : Array Bool → Act → World → Prop)
  (hstep : ∀ listed a w i, J listed a w → i ∈ Region.ready md ops listed → wpOp P ops Q i (fun a' w' => J (listed.setIfInBounds i true) a' w') a w)
  (hend : ∀ listed a w, J listed a w → Region.ready md ops listed = [] → Q .normal a w) :
  ∀ (fuel : Nat) (listed : Array Bool) (a : Act) (w : World), (List.range ops.size).countP (fun j => !listed.getD j true) ≤ fuel → J listed a w → wpAny P md ops Q fuel listed a w
 | 0, listed, a, w, hc, hJ => by
  have hr : Region.ready md ops listed = [] := by
   apply List.eq_nil_iff_forall_not_mem.2
   intro i hi
   obtain ⟨h1, o, ho, -⟩ := mem_ready.1 hi
   have : 0 < (List.range ops.size).countP (fun j => !listed.getD j true) := List.countP_pos_iff.2 ⟨i, List.mem_range.2 (Array.getElem?_eq_some_iff.1 ho).1, by rw [h1]; rfl⟩
   omega
  exact ⟨hr, hend _ _ _ hJ hr⟩
 | fuel + 1, listed, a, w, hc, hJ => by
  refine ⟨hend _ _ _ hJ, fun i hi => wpOp_mono (fun a' w' h => wpAny_inv J hstep hend fuel _ a' w' ?_ h) (hstep _ _ _ _ hJ hi)⟩
  obtain ⟨h1, o, ho, -⟩ := mem_ready.1 hi
  have hin := getD_lt h1
  have := countP_lt (p := fun j => !listed.getD j true) (q := fun j => !(listed.setIfInBounds i true).getD j true) (i := i) (fun j hj => by
    by_cases e : i = j
    ·subst e; simp [h1]
    ·rw [getD_set_ne true e] at hj; exact hj) (by simp [h1]) (by simp [hin]) _ (List.mem_range.2 (Array.getElem?_eq_some_iff.1 ho).1)
  omega
theorem none_listed (m j : Nat) : (Array.replicate m false).getD j false = false := by
 rcases Nat.lt_or_ge j m with h | h
 ·simp [h]
 ·simp [h]
structure Off (ops : Array Oper) (b a : Act) : Prop where
 same : a.defers = b.defers
 size : a.tmps.size = b.tmps.size
 off : ∀ k, (∀ (i : Nat) (o : Oper), ops[i]? = some o → o.dst ≠ some k) → a.tmps[k]? = b.tmps[k]?
theorem Off.refl (ops : Array Oper) (a : Act) : Off ops a a := ⟨rfl, rfl, fun _ _ => rfl⟩
theorem Off.put {b a : Act} (h : Off ops b a) {i : Nat} {o : Oper} {d : Tmp} (ho : ops[i]? = some o) (hd : o.dst = some d) (v : Value) : Off ops b (a.put (some d) v) :=
 ⟨h.same, by show (a.tmps.setIfInBounds d v).size = _; rw [Array.size_setIfInBounds]; exact h.size, fun k hk => by
  have hne : d ≠ k := fun e => hk i o ho (by rw [hd, e])
  show (a.tmps.setIfInBounds d v)[k]? = _
  rw [Array.getElem?_setIfInBounds, if_neg hne]
  exact h.off k hk⟩
theorem sets_eq : ∀ (dvs : List (Nat × Value)) (x b : Array Value), x.size = b.size → (∀ k, k ∉ dvs.map (·.1) → x[k]? = b[k]?) → (∀ p ∈ dvs, x[p.1]? = some p.2) → x = dvs.foldl (fun y p => y.setIfInBounds p.1 p.2) b
 | [], x, b, _, h, _ => by
  apply Array.ext_getElem?
  intro k; exact h k (by simp)
 | p :: dvs, x, b, hs, h, hv => by
  rw [List.foldl_cons]
  refine sets_eq dvs x _ (by rw [Array.size_setIfInBounds]; exact hs) (fun k hk => ?_) (fun q hq => hv q (List.mem_cons_of_mem _ hq))
  rw [Array.getElem?_setIfInBounds]
  by_cases e : p.1 = k
  ·subst e
   have h1 := hv p (by simp)
   rw [if_pos rfl, if_pos (by rw [← hs]; exact (Array.getElem?_eq_some_iff.1 h1).1)]
   exact h1
  ·rw [if_neg e]
   exact h k (by simp only [List.map_cons, List.mem_cons, not_or]; exact ⟨fun h => e h.symm, hk⟩)
theorem Off.sets {b a : Act} (h : Off ops b a) (dvs : List (Nat × Value)) (hd : (ops.toList.all fun o => match o.dst with | some d => (dvs.map (·.1)).contains d | none => true) = true) (hv : ∀ p ∈ dvs, a.tmps[p.1]? = some p.2) :
  a = { b with tmps := dvs.foldl (fun y p => y.setIfInBounds p.1 p.2) b.tmps } := by
 cases a with
 | mk t ds =>
  have e1 : ds = b.defers := h.same
  subst e1
  congr 1
  refine sets_eq dvs t b.tmps h.size (fun k hk => h.off k fun i o ho hdk => hk ?_) hv
  rw [List.all_eq_true] at hd
  have := hd o (by rw [Array.mem_toList_iff]; exact Array.mem_of_getElem? ho)
  rw [hdk] at this
  simpa using this
end
end Go.Proofs.YtjohcnhiblfbnaaGreatDoor
namespace Go.Proofs.YtjohcnhiblfbnaaGreatDoor
open Go
section
variable {P : Program} {ops : Array Oper} {Q : Exit → Act → World → Prop} {md : Region.Mode}
def okOpsG (ops : Array Oper) (n : Nat) : Bool :=
 (List.range ops.size).all fun i => match ops[i]? with
  | none => true
  | some o => (match o.dst with | some d => decide (d < n) | none => false) && o.after.all (fun e => decide (e.on < i)) &&
   (List.range ops.size).all fun j => j == i || (match ops[j]? with | some o' => !(o'.dst == o.dst) | none => true)
theorem okOpsG.at {n i : Nat} {o : Oper} (h : okOpsG ops n = true) (ho : ops[i]? = some o) : (∃ d, o.dst = some d ∧ d < n) ∧ (∀ e ∈ o.after, e.on < i) ∧ ∀ j o', ops[j]? = some o' → j ≠ i → o'.dst ≠ o.dst := by
 unfold okOpsG at h
 rw [List.all_eq_true] at h
 have h1 := h i (List.mem_range.2 (Array.getElem?_eq_some_iff.1 ho).1)
 rw [ho] at h1
 simp only [Bool.and_eq_true] at h1
 obtain ⟨⟨g2, g3⟩, g4⟩ := h1
 refine ⟨?_, ?_, ?_⟩
 ·split at g2
  ·rename_i d hd; exact ⟨d, hd, of_decide_eq_true g2⟩
  ·cases g2
 ·intro e he
  exact of_decide_eq_true (Array.all_eq_true_iff_forall_mem.1 g3 e he)
 ·intro j o' hj hne he
  rw [List.all_eq_true] at g4
  have h2 := g4 j (List.mem_range.2 (Array.getElem?_eq_some_iff.1 hj).1)
  rw [hj] at h2
  simp [hne, he] at h2
def StepG (P : Program) (md : Region.Mode) (ops : Array Oper) (A : Act) (F : World → Nat → Value → Prop) (G : World → Prop) (Q : Exit → Act → World → Prop) (i : Nat) (o : Oper) : Prop :=
 ∀ (a : Act) (w : World), Off ops A a → G w →
  (∀ (j : Nat) (o' : Oper) (d : Tmp), (o.after.any fun e => Region.binds md e && e.on == j) = true → ops[j]? = some o' → o'.dst = some d → ∃ v, a.tmps[d]? = some v ∧ F w j v) →
  ∀ K : Act → World → Prop, Shut (∀ v w', G w' → F w' i v → (∀ j u, F w j u → F w' j u) → K (a.put o.dst v) w') → if Region.wanted o (yielded ops a.tmps) = true then Oper.wp P o a w K Q else K (a.put o.dst undef) w
def StepsG (P : Program) (md : Region.Mode) (ops : Array Oper) (A : Act) (F : World → Nat → Value → Prop) (G : World → Prop) (Q : Exit → Act → World → Prop) : Nat → List Oper → Prop
 | _, [] => True
 | i, o :: os => StepG P md ops A F G Q i o ∧ StepsG P md ops A F G Q (i + 1) os
theorem StepsG.at {A : Act} {F : World → Nat → Value → Prop} {G : World → Prop} : ∀ (os : List Oper) (k i : Nat) (o : Oper), StepsG P md ops A F G Q k os → os[i]? = some o → StepG P md ops A F G Q (k + i) o
 | [], _, _, _, _, h => by simp at h
 | x :: os, k, 0, o, hs, h => by simp at h; subst h; exact hs.1
 | x :: os, k, i + 1, o, hs, h => by
  have := StepsG.at os (k + 1) i o hs.2 (by simpa using h)
  rw [show k + (i + 1) = k + 1 + i by omega]; exact this
theorem wp_region_factsG {id : Nat} {A : Act} {w : World} (hm : P.follows .mixedOrders = true) (n : Nat) (hn : A.tmps.size = n) (hok : okOpsG ops n = true) (F : World → Nat → Value → Prop) (G : World → Prop) (hG : G w.drew)
  (hsteps : StepsG P .any ops A F G Q 0 ops.toList)
  (hend : ∀ a w, Off ops A a → G w → (∀ (i : Nat) (o : Oper) (d : Tmp), ops[i]? = some o → o.dst = some d → ∃ v, a.tmps[d]? = some v ∧ F w i v) → Q .normal a w) :
  (Code.region id ops true).wp P Q A w := by
 refine wp_region_any hm (wpAny_inv (J := fun listed a w => listed.size = ops.size ∧ Off ops A a ∧ G w ∧ ∀ (i : Nat) (o : Oper) (d : Tmp), ops[i]? = some o → o.dst = some d → listed.getD i false = true → ∃ v, a.tmps[d]? = some v ∧ F w i v) ?_ ?_ _ _ _ _ ?_ ?_)
 ·rintro listed a w i ⟨hsz, hoff, hg, hf⟩ hi
  obtain ⟨h1, o, ho, hall⟩ := mem_ready.1 hi
  obtain ⟨⟨d, k2, k3⟩, -, k4⟩ := okOpsG.at hok ho
  have hin := getD_lt h1
  have hst := StepsG.at ops.toList 0 i o hsteps (by simpa using ho)
  rw [Nat.zero_add] at hst
  unfold wpOp
  rw [ho]
  simp only
  have key := hst a w hoff hg (fun j o' d' hj ho' hd' => by
   obtain ⟨e, he, hb⟩ := Array.any_eq_true'.1 hj
   simp only [Bool.and_eq_true, beq_iff_eq] at hb
   exact hf j o' d' ho' hd' (by rw [← hb.2]; exact hall e he hb.1)) (fun a' w' => (listed.setIfInBounds i true).size = ops.size ∧ Off ops A a' ∧ G w' ∧ ∀ (j : Nat) (o : Oper) (d : Tmp), ops[j]? = some o → o.dst = some d → (listed.setIfInBounds i true).getD j false = true → ∃ v, a'.tmps[d]? = some v ∧ F w' j v) (fun v w' hg' hf' hstay => by
   rw [k2]
   refine ⟨by rw [Array.size_setIfInBounds]; exact hsz, hoff.put ho k2 v, hg', fun j o' d' ho' hd' hl => ?_⟩
   by_cases e : j = i
   ·subst e
    obtain rfl : o' = o := Option.some.inj (ho'.symm.trans ho)
    obtain rfl : d' = d := Option.some.inj (hd'.symm.trans k2)
    refine ⟨v, ?_, hf'⟩
    show (a.tmps.setIfInBounds d' v)[d']? = _
    rw [Array.getElem?_setIfInBounds, if_pos rfl, if_pos (by rw [hoff.size, hn]; exact k3)]
   ·rw [getD_set_ne false (fun h => e h.symm)] at hl
    obtain ⟨u, hu, hF⟩ := hf j o' d' ho' hd' hl
    refine ⟨u, ?_, hstay j u hF⟩
    have hne : d ≠ d' := fun h => k4 j o' ho' e (by rw [hd', k2, h])
    show (a.tmps.setIfInBounds d v)[d']? = _
    rw [Array.getElem?_setIfInBounds, if_neg hne]; exact hu)
  split
  ·rename_i hw; rw [if_pos hw] at key; exact .inl key
  ·rename_i hw; rw [if_neg hw] at key; exact key
 ·rintro listed a w ⟨hsz, hoff, hg, hf⟩ hr
  refine hend a w hoff hg fun i o d ho hd => hf i o d ho hd ?_
  have all : ∀ i, i < ops.size → listed.getD i false = true := by
   intro i
   induction i using Nat.strongRecOn with
   | _ i ih =>
    intro hi
    cases hl : listed.getD i true with
    | true => simpa [hsz, hi] using hl
    | false =>
     have ho : ops[i]? = some ops[i] := Array.getElem?_eq_getElem hi
     have : i ∈ Region.ready .any ops listed := mem_ready.2 ⟨hl, ops[i], ho, fun e he _ => ih e.on ((okOpsG.at hok ho).2.1 e he) (Nat.lt_trans ((okOpsG.at hok ho).2.1 e he) hi)⟩
     rw [hr] at this; cases this
  exact all i (Array.getElem?_eq_some_iff.1 ho).1
 ·exact Nat.le_trans List.countP_le_length (by simp)
 ·exact ⟨by simp, Off.refl _ _, hG, fun i o d _ _ hl => by rw [none_listed] at hl; cases hl⟩
theorem off_at {b a : Act} (h : Off ops b a) (k : Nat) {v : Value} (hd : (ops.toList.all fun o => o.dst != some k) = true) (hv : b.tmps[k]? = some v) : a.tmps[k]? = some v :=
 (h.off k fun i o ho he => by
  rw [List.all_eq_true] at hd
  have := hd o (by rw [Array.mem_toList_iff]; exact Array.mem_of_getElem? ho)
  rw [he] at this; simp at this).trans hv
end
end Go.Proofs.YtjohcnhiblfbnaaGreatDoor
namespace Go.Proofs.YtjohcnhiblfbnaaGreatDoor
open Go
section
variable {P : Program} {ops : Array Oper} {Q : Exit → Act → World → Prop}
def okOpsL (ops : Array Oper) (n : Nat) : Bool :=
 (List.range ops.size).all fun i => match ops[i]? with
  | none => true
  | some o => o.after.all (fun e => decide (e.on < i)) && (i + 1 == ops.size || ((match o.dst with | some d => decide (d < n) | none => false) &&
   (List.range ops.size).all (fun j => j == i || (match ops[j]? with | some o' => !(o'.dst == o.dst) | none => true)) &&
   (List.range ops.size).any (fun j => match ops[j]? with | some o' => o'.after.any (fun e => Region.binds .any e && e.on == i) | none => false)))
theorem okOpsL.at {n i : Nat} {o : Oper} (h : okOpsL ops n = true) (ho : ops[i]? = some o) : (∀ e ∈ o.after, e.on < i) ∧ (i + 1 < ops.size → (∃ d, o.dst = some d ∧ d < n) ∧ (∀ j o', ops[j]? = some o' → j ≠ i → o'.dst ≠ o.dst) ∧ ∃ (j : Nat) (o' : Oper), ops[j]? = some o' ∧ ∃ e ∈ o'.after, Region.binds .any e = true ∧ e.on = i) := by
 unfold okOpsL at h
 rw [List.all_eq_true] at h
 have h1 := h i (List.mem_range.2 (Array.getElem?_eq_some_iff.1 ho).1)
 rw [ho] at h1
 simp only [Bool.and_eq_true, Bool.or_eq_true, beq_iff_eq] at h1
 obtain ⟨g3, g⟩ := h1
 refine ⟨fun e he => of_decide_eq_true (Array.all_eq_true_iff_forall_mem.1 g3 e he), fun hlt => ?_⟩
 rcases g with g | ⟨⟨g2, g4⟩, g5⟩
 ·omega
 refine ⟨?_, ?_, ?_⟩
 ·split at g2
  ·rename_i d hd; exact ⟨d, hd, of_decide_eq_true g2⟩
  ·cases g2
 ·intro j o' hj hne he
  rw [List.all_eq_true] at g4
  have h2 := g4 j (List.mem_range.2 (Array.getElem?_eq_some_iff.1 hj).1)
  rw [hj] at h2
  simp [hne, he] at h2
 ·obtain ⟨j, _, hj2⟩ := List.any_eq_true.1 g5
  split at hj2
  ·rename_i o' ho'
   obtain ⟨e, he, hb⟩ := Array.any_eq_true'.1 hj2
   simp only [Bool.and_eq_true, beq_iff_eq] at hb
   exact ⟨j, o', ho', e, he, hb.1, hb.2⟩
  ·cases hj2
def StepL (P : Program) (ops : Array Oper) (A : Act) (F : World → Nat → Value → Prop) (G : World → Prop) (Q : Exit → Act → World → Prop) (i : Nat) (o : Oper) : Prop :=
 ∀ (a : Act) (w : World), Off ops.pop A a → G w →
  (∀ (j : Nat) (o' : Oper) (d : Tmp), (o.after.any fun e => Region.binds .any e && e.on == j) = true → ops[j]? = some o' → o'.dst = some d → ∃ v, a.tmps[d]? = some v ∧ F w j v) →
  ∀ K : Act → World → Prop, Shut (∀ v w', G w' → F w' i v → (∀ j u, F w j u → F w' j u) → K (a.put o.dst v) w') → if Region.wanted o (yielded ops a.tmps) = true then Oper.wp P o a w K Q else K (a.put o.dst undef) w
def StepsL (P : Program) (ops : Array Oper) (A : Act) (F : World → Nat → Value → Prop) (G : World → Prop) (Q : Exit → Act → World → Prop) : Nat → List Oper → Prop
 | _, [] => True
 | i, o :: os => StepL P ops A F G Q i o ∧ StepsL P ops A F G Q (i + 1) os
theorem StepsL.at {A : Act} {F : World → Nat → Value → Prop} {G : World → Prop} : ∀ (os : List Oper) (k i : Nat) (o : Oper), StepsL P ops A F G Q k os → os[i]? = some o → StepL P ops A F G Q (k + i) o
 | [], _, _, _, _, h => by simp at h
 | x :: os, k, 0, o, hs, h => by simp at h; subst h; exact hs.1
 | x :: os, k, i + 1, o, hs, h => by
  have := StepsL.at os (k + 1) i o hs.2 (by simpa using h)
  rw [show k + (i + 1) = k + 1 + i by omega]; exact this
theorem wp_region_factsL {id : Nat} {A : Act} {w : World} (hm : P.follows .mixedOrders = true) (n : Nat) (hn : A.tmps.size = n) (hok : okOpsL ops n = true) (F : World → Nat → Value → Prop) (G : World → Prop) (hG : G w.drew)
  (hsteps : StepsL P ops A F G Q 0 ops.toList.dropLast)
  {o : Oper} (hback : ops.back? = some o) (hlast : ∀ a w, Off ops.pop A a → G w → (∀ (i : Nat) (o : Oper) (d : Tmp), i + 1 < ops.size → ops[i]? = some o → o.dst = some d → ∃ v, a.tmps[d]? = some v ∧ F w i v) → if Region.wanted o (yielded ops a.tmps) = true then Oper.wp P o a w (fun a' w' => Q .normal a' w') Q else Q .normal (a.put o.dst undef) w)
  (hpos : 0 < ops.size) :
  (Code.region id ops true).wp P Q A w := by
 refine wp_region_any hm (wpAny_inv (J := fun listed a w => listed.size = ops.size ∧ ((listed.getD (ops.size - 1) false = false ∧ Off ops.pop A a ∧ G w ∧ (∀ (i : Nat) (o : Oper), ops[i]? = some o → listed.getD i false = true → ∀ e ∈ o.after, Region.binds .any e = true → listed.getD e.on false = true) ∧
   ∀ (i : Nat) (o : Oper) (d : Tmp), ops[i]? = some o → o.dst = some d → listed.getD i false = true → ∃ v, a.tmps[d]? = some v ∧ F w i v) ∨ ((∀ i, i < ops.size → listed.getD i false = true) ∧ Q .normal a w))) ?_ ?_ _ _ _ _ ?_ ?_)
 ·rintro listed a w i ⟨hsz, hJ⟩ hi
  obtain ⟨h1, o, ho, hall⟩ := mem_ready.1 hi
  have HBK := hback
  have hin := getD_lt h1
  have hlf : listed.getD i false = false := by
   have : i < listed.size := hin
   simp [this] at h1 ⊢; exact h1
  rcases hJ with ⟨hl0, hoff, hg, hcl, hf⟩ | ⟨hal, -⟩
  case inr => rw [hal i (by omega)] at hlf; cases hlf
  obtain ⟨kaft, krest⟩ := okOpsL.at hok ho
  by_cases hlt : i + 1 < ops.size
  ·obtain ⟨⟨d, k2, k3⟩, k4, -⟩ := krest hlt
   have hst := StepsL.at ops.toList.dropLast 0 i o hsteps (by rw [List.getElem?_dropLast, if_pos (by simp; omega)]; simpa using ho)
   rw [Nat.zero_add] at hst
   unfold wpOp
   rw [ho]
   simp only
   have key := hst a w hoff hg (fun j o' d' hj ho' hd' => by
    obtain ⟨e, he, hb⟩ := Array.any_eq_true'.1 hj
    simp only [Bool.and_eq_true, beq_iff_eq] at hb
    exact hf j o' d' ho' hd' (by rw [← hb.2]; exact hall e he hb.1)) (fun a' w' => (listed.setIfInBounds i true).size = ops.size ∧ (((listed.setIfInBounds i true).getD (ops.size - 1) false = false ∧ Off ops.pop A a' ∧ G w' ∧ (∀ (i' : Nat) (o : Oper), ops[i']? = some o → (listed.setIfInBounds i true).getD i' false = true → ∀ e ∈ o.after, Region.binds .any e = true → (listed.setIfInBounds i true).getD e.on false = true) ∧
     ∀ (j : Nat) (o : Oper) (d : Tmp), ops[j]? = some o → o.dst = some d → (listed.setIfInBounds i true).getD j false = true → ∃ v, a'.tmps[d]? = some v ∧ F w' j v) ∨ ((∀ i', i' < ops.size → (listed.setIfInBounds i true).getD i' false = true) ∧ Q .normal a' w'))) (fun v w' hg' hf' hstay => by
    rw [k2]
    refine ⟨by rw [Array.size_setIfInBounds]; exact hsz, .inl ⟨by rw [getD_set_ne false (by omega)]; exact hl0, hoff.put (i := i) (o := o) (by rw [Array.getElem?_pop, if_pos (by omega)]; exact ho) k2 v, hg', fun i' o' ho' hl' e he hb => ?_, fun j o' d' ho' hd' hl => ?_⟩⟩
    ·have up : ∀ q, listed.getD q false = true → (listed.setIfInBounds i true).getD q false = true := fun q hq => by
      by_cases e : i = q
      ·subst e; simp [hin]
      ·rw [getD_set_ne false e]; exact hq
     by_cases e' : i' = i
     ·subst e'
      obtain rfl : o' = o := Option.some.inj (ho'.symm.trans ho)
      exact up _ (hall e he hb)
     ·rw [getD_set_ne false (fun h => e' h.symm)] at hl'
      exact up _ (hcl i' o' ho' hl' e he hb)
    ·by_cases e : j = i
     ·subst e
      obtain rfl : o' = o := Option.some.inj (ho'.symm.trans ho)
      obtain rfl : d' = d := Option.some.inj (hd'.symm.trans k2)
      refine ⟨v, ?_, hf'⟩
      show (a.tmps.setIfInBounds d' v)[d']? = _
      rw [Array.getElem?_setIfInBounds, if_pos rfl, if_pos (by rw [hoff.size, hn]; exact k3)]
     ·rw [getD_set_ne false (fun h => e h.symm)] at hl
      obtain ⟨u, hu, hF⟩ := hf j o' d' ho' hd' hl
      refine ⟨u, ?_, hstay j u hF⟩
      have hne : d ≠ d' := fun h => k4 j o' ho' e (by rw [hd', k2, h])
      show (a.tmps.setIfInBounds d v)[d']? = _
      rw [Array.getElem?_setIfInBounds, if_neg hne]; exact hu)
   split
   ·rename_i hw; rw [if_pos hw] at key; exact .inl key
   ·rename_i hw; rw [if_neg hw] at key; exact key
  ·obtain rfl : i = ops.size - 1 := by have := (Array.getElem?_eq_some_iff.1 ho).1; omega
   have hoe := Option.some.inj (HBK.symm.trans (by rw [Array.back?_eq_getElem?]; exact ho))
   subst hoe
   have all : ∀ k j, j + k + 1 = ops.size → 0 < k → listed.getD j false = true := by
    intro k
    induction k using Nat.strongRecOn with
    | _ k ih =>
     intro j hj hk
     have hoj : ops[j]? = some (ops[j]'(by omega)) := Array.getElem?_eq_getElem _
     obtain ⟨-, hr⟩ := okOpsL.at hok hoj
     obtain ⟨-, -, j', o', hj', e, he, hb, hon⟩ := hr (by omega)
     have hlt' : j < j' := by rw [← hon]; exact (okOpsL.at hok hj').1 e he
     have hj'lt := (Array.getElem?_eq_some_iff.1 hj').1
     by_cases hL : j' = ops.size - 1
     ·subst hL
      obtain rfl : o' = o := Option.some.inj (hj'.symm.trans ho)
      rw [← hon]; exact hall e he hb
     ·have := ih (ops.size - 1 - j') (by omega) j' (by omega) (by omega)
      rw [← hon]; exact hcl j' o' hj' this e he hb
   have key := hlast a w hoff hg (fun i' o' d' hi' ho' hd' => hf i' o' d' ho' hd' (all (ops.size - 1 - i') i' (by omega) (by omega)))
   have fin : ∀ a' w', Q .normal a' w' → (listed.setIfInBounds (ops.size - 1) true).size = ops.size ∧ (((listed.setIfInBounds (ops.size - 1) true).getD (ops.size - 1) false = false ∧ Off ops.pop A a' ∧ G w' ∧ (∀ (i' : Nat) (o : Oper), ops[i']? = some o → (listed.setIfInBounds (ops.size - 1) true).getD i' false = true → ∀ e ∈ o.after, Region.binds .any e = true → (listed.setIfInBounds (ops.size - 1) true).getD e.on false = true) ∧
     ∀ (j : Nat) (o : Oper) (d : Tmp), ops[j]? = some o → o.dst = some d → (listed.setIfInBounds (ops.size - 1) true).getD j false = true → ∃ v, a'.tmps[d]? = some v ∧ F w' j v) ∨ ((∀ i', i' < ops.size → (listed.setIfInBounds (ops.size - 1) true).getD i' false = true) ∧ Q .normal a' w')) := by
    intro a' w' hq
    refine ⟨by rw [Array.size_setIfInBounds]; exact hsz, .inr ⟨fun i' hi' => ?_, hq⟩⟩
    by_cases e : ops.size - 1 = i'
    ·subst e; simp [hin]
    ·rw [getD_set_ne false e]; exact all (ops.size - 1 - i') i' (by omega) (by omega)
   have hop : wpOp P ops Q (ops.size - 1) (fun a' w' => Q .normal a' w') a w := by
    unfold wpOp
    rw [ho]
    simp only
    split
    ·rename_i hw; rw [if_pos hw] at key; exact .inl key
    ·rename_i hw; rw [if_neg hw] at key; exact key
   exact wpOp_mono (fun a' w' h => fin a' w' h) hop
 ·rintro listed a w ⟨hsz, hJ⟩ hr
  rcases hJ with ⟨hl0, -⟩ | ⟨-, hq⟩
  case inr => exact hq
  exfalso
  have all : ∀ i, i < ops.size → listed.getD i false = true := by
   intro i
   induction i using Nat.strongRecOn with
   | _ i ih =>
    intro hi
    cases hl : listed.getD i true with
    | true => simpa [hsz, hi] using hl
    | false =>
     have ho : ops[i]? = some ops[i] := Array.getElem?_eq_getElem hi
     have : i ∈ Region.ready .any ops listed := mem_ready.2 ⟨hl, ops[i], ho, fun e he _ => ih e.on ((okOpsL.at hok ho).1 e he) (Nat.lt_trans ((okOpsL.at hok ho).1 e he) hi)⟩
     rw [hr] at this; cases this
  rw [all (ops.size - 1) (by omega)] at hl0
  cases hl0
 ·exact Nat.le_trans List.countP_le_length (by simp)
 ·exact ⟨by simp, .inl ⟨none_listed _ _, Off.refl _ _, hG, fun i o _ hl => (by rw [none_listed] at hl; cases hl), fun i o d _ _ hl => by rw [none_listed] at hl; cases hl⟩⟩
end
end Go.Proofs.YtjohcnhiblfbnaaGreatDoor
namespace Go.Proofs.YtjohcnhiblfbnaaGreatDoor
open Go.RowKit
theorem flat_rep (S : Nat → Prop) (w : World) (k n : Int) (s : ByteArray) (hk : I64 k) (hn : I64 n) (hs : s.size ≤ maxLen) : RepG S w (.mk k n s []) (.int .i64 k) (.int .i64 n) (.string s) (.slice none 0 0) :=
 repG_mk.2 ⟨rfl, rfl, rfl, hk, hn, hs, none, 0, 0, 0, rfl, Nat.le_refl _, by simp, fun h => by omega, fun h => by simp at h, fun i hi => by simp at hi⟩
end Go.Proofs.YtjohcnhiblfbnaaGreatDoor
namespace Go.Proofs.YtjohcnhiblfbnaaGreatDoor
open Go.RowKit
theorem slg_row {α : Type} {S : Nat → Prop} {w : World} {n bytes : Nat} {R : α → (Nat → Value) → Prop} {l : List α} {b : Nat} {cs : Array Value} {t : TypeId} {fz : Nat × Nat} (hb : w.heap[b]? = some (.cells cs t fz)) (hS : S b) (hsz : cs.size = l.length * n) (hby : l.length * bytes ≤ 140737488355328)
  (hR : ∀ i (h : i < l.length), R l[i] (fun j => cs.getD (i * n + j) undef)) : SlG S w n bytes R l (.slice (some ⟨b, 0, none⟩) l.length l.length) := by
 refine ⟨_, b, 0, l.length, rfl, Nat.le_refl _, hby, fun _ => rfl, fun _ => hS, fun i hi => ⟨_, fun j hj => ?_, hR i hi⟩⟩
 have hlt : i * n + j < cs.size := by
  have : (i + 1) * n ≤ l.length * n := Nat.mul_le_mul_right n hi
  rw [Nat.succ_mul] at this; omega
 rw [show 0 + i * n + j = i * n + j by omega]
 exact cell_of_block' hb _ (by simp [Array.getD, hlt])
theorem slg_nil {α : Type} {S : Nat → Prop} {w : World} {n bytes : Nat} {R : α → (Nat → Value) → Prop} : SlG S w n bytes R [] (.slice none 0 0) :=
 ⟨none, 0, 0, 0, rfl, Nat.le_refl _, by simp, fun h => by omega, fun h => by simp at h, fun i hi => by simp at hi⟩
def zV : V := .mk 0 0 ⟨#[]⟩ []
theorem small64 {n : Int} (h : 0 ≤ n ∧ n ≤ 100) : I64 n := ⟨by omega, by omega⟩
theorem zV_rep (S : Nat → Prop) (w : World) : RepG S w zV (.int .i64 0) (.int .i64 0) (.string ⟨#[]⟩) (.slice none 0 0) := flat_rep S w 0 0 ⟨#[]⟩ (small64 (by omega)) (small64 (by omega)) (by decide)
end Go.Proofs.YtjohcnhiblfbnaaGreatDoor
namespace Go.Proofs.YtjohcnhiblfbnaaGreatDoor
open Go.RowKit
def pickZ (c n : Int) : Int := (if c < 0 then -(c + 1) else c) % n
theorem pickZ_bd (c n : Int) (h : 0 < n) : 0 ≤ pickZ c n ∧ pickZ c n < n := ⟨Int.emod_nonneg _ (by omega), Int.emod_lt_of_pos _ h⟩
theorem ret_int' {k : IntKind} {a b : Int} (h : a = b) : Ending.returned (.int k a) = .returned (.int k b) := by rw [h]
end Go.Proofs.YtjohcnhiblfbnaaGreatDoor
namespace Go.Proofs.YtjohcnhiblfbnaaGreatDoor
open Go.RowKit
structure Rw where
 kind : Int
 name : Int
 n0 : Int
 n1 : Int
 n2 : Int
 n3 : Int
def RwOk (x : Rw) : Prop := I64 x.kind ∧ I64 x.name ∧ I64 x.n0 ∧ I64 x.n1 ∧ I64 x.n2 ∧ I64 x.n3
def RepRw (_S : Nat → Prop) (_w : World) (x : Rw) (c : Nat → Value) : Prop :=
 c 0 = .int .i64 x.kind ∧ c 1 = .int .i64 x.name ∧ c 2 = .int .i64 x.n0 ∧ c 3 = .int .i64 x.n1 ∧ c 4 = .int .i64 x.n2 ∧ c 5 = .int .i64 x.n3 ∧ RwOk x
def rwV (x : Rw) : Value := .agg #[.int .i64 x.kind, .int .i64 x.name, .int .i64 x.n0, .int .i64 x.n1, .int .i64 x.n2, .int .i64 x.n3]
def RepRws (S : Nat → Prop) (w : World) (l : List Rw) (v : Value) : Prop := SlG S w 6 48 (RepRw S w) l v
def RepRwss (S : Nat → Prop) (w : World) (l : List (List Rw)) (v : Value) : Prop := SlG S w 1 24 (fun x c => RepRws S w x (c 0)) l v
def decls6 : List De := [⟨⟨#[108, 105, 110, 107]⟩, 3⟩, ⟨⟨#[112]⟩, 2⟩, ⟨⟨#[113]⟩, 2⟩, ⟨⟨#[114]⟩, 1⟩, ⟨⟨#[115]⟩, 3⟩, ⟨⟨#[116]⟩, 2⟩]
def decl6 (i : Nat) : De := decls6.getD i ⟨⟨#[108, 105, 110, 107]⟩, 3⟩
def vName (i : Nat) : ByteArray := ⟨#[[83, 68, 88, 89, 90, 67].getD i 83]⟩
def vTm (i : Nat) : Tm := .mk 1 (vName i) zV []
def vZ (c : Int) : Tm := vTm (pickZ c 6).toNat
def numZ (n : Int) : Tm := .mk 2 ⟨#[]⟩ (.mk 1 n ⟨#[]⟩ []) []
def adrName (i : Nat) : ByteArray := ⟨#[[97, 98, 99, 100].getD i 97]⟩
def adrZ (i : Nat) : Tm := .mk 2 ⟨#[]⟩ (.mk 3 0 (adrName i) []) []
def sumZ (a b : Tm) (s : ByteArray) : Tm := .mk 4 s zV [a, b]
def argZ (k : Int) : Tm :=
 if pickZ k 12 = 9 then numZ (pickZ (k.tdiv 12) 4)
 else if pickZ k 12 = 10 then adrZ (pickZ (k.tdiv 12) 3).toNat
 else if pickZ k 12 = 11 then sumZ (vZ (k.tdiv 12)) (numZ 1) ⟨#[43]⟩
 else vZ k
def declOf (x : Rw) : De := decl6 (pickZ x.name 6).toNat
def numOf (x : Rw) (i : Nat) : Int := [x.n0, x.n1, x.n2, x.n3].getD i 0
def atomTo (x : Rw) (k : Nat) : List Tm := vZ x.n0 :: (List.range (k - 1)).map fun i => argZ (numOf x (i + 1))
def atomZ (x : Rw) : List Tm := atomTo x (declOf x).arity.toNat
def cmp6 (i : Nat) : ByteArray := ⟨([[61, 61], [33, 61], [60], [60, 61], [62], [62, 61]].getD i []).toArray⟩
def litZ (x : Rw) : Li :=
 if pickZ x.kind 8 ≤ 3 then ⟨1, (declOf x).name, atomZ x⟩
 else if pickZ x.kind 8 = 4 then ⟨2, (declOf x).name, atomZ x⟩
 else if pickZ x.kind 8 ≤ 6 then ⟨3, cmp6 (pickZ x.name 6).toNat, [vZ x.n0, if pickZ x.n3 2 = 0 then numZ (pickZ x.n2 4) else vZ x.n1]⟩
 else ⟨4, vName (pickZ x.n0 6).toNat, [sumZ (vZ x.n1) (if pickZ (x.n3.tdiv 2) 2 = 0 then numZ 1 else vZ x.n2) (if pickZ x.n3 2 = 0 then ⟨#[43]⟩ else ⟨#[45]⟩)]⟩
def zRw : Rw := ⟨0, 0, 0, 0, 0, 0⟩
def headRw (l : List Rw) : Rw := match l with
 | [] => zRw
 | x :: _ => x
def bodyZ (l : List Rw) : List Li := if ((l.take 5).drop 1) = [] then [litZ zRw] else ((l.take 5).drop 1).map litZ
def labelZ (n : Int) : ByteArray := ⟨#[114, UInt8.ofNat (97 + (pickZ n 26).toNat)]⟩
def agg6 (i : Nat) : ByteArray := ⟨([[109, 105, 110], [109, 97, 120], [99, 111, 117, 110, 116]].getD i []).toArray⟩
def aggOn (l : List Rw) : Bool := pickZ (headRw l).kind 5 == 4 && (decide (1 < (atomZ (headRw l)).length) && ((atomZ (headRw l)).getD 1 (numZ 0)).kind == 1)
def ruleZ (l : List Rw) (n : Int) : Ru :=
 if aggOn l = true then ⟨labelZ n, (declOf (headRw l)).name, atomZ (headRw l), agg6 (pickZ ((headRw l).kind.tdiv 5) 3).toNat, 1, bodyZ l⟩
 else ⟨labelZ n, (declOf (headRw l)).name, atomZ (headRw l), ⟨#[]⟩, 0, bodyZ l⟩
def factArg (x : Rw) (i : Nat) : V :=
 if i = 0 ∨ (i = 1 ∧ ((declOf x).name = ⟨#[108, 105, 110, 107]⟩ ∨ pickZ (numOf x i) 2 = 0)) then .mk 3 0 (adrName (pickZ ((numOf x i).tdiv 2) 4).toNat) []
 else .mk 1 (pickZ ((numOf x i).tdiv 2) 5) ⟨#[]⟩ []
def factZ (x : Rw) : Fa := ⟨(declOf x).name, (List.range (declOf x).arity.toNat).map (factArg x)⟩
def rulesTo (l : List (List Rw)) (k : Nat) : List Ru := (List.range k).map fun i => ruleZ (l.getD i []) i
def progZ (rules : List (List Rw)) (facts : List Rw) : Pr := ⟨decls6, (facts.take 12).map factZ, rulesTo rules (min rules.length 6)⟩
end Go.Proofs.YtjohcnhiblfbnaaGreatDoor
