/-
  Terms, literals, rules, facts and relations in a variable of their own.
-/
import Derived.Test.YtgjemmdhamkngaaGreatDoorW02
import Derived.Test.YtgjemmdhamkngaaGreatDoorW01
import Derived.Test.YtgjemmdhamkngaaGreatDoorW03
import Derived.Orders
import Derived.Deep.RegionHeld
import Derived.WalkKit
import Derived.Deep.RegionHeld3
namespace Go.Proofs.YtgjemmdhamkngaaGreatDoor
open Go.RowKit

theorem frozen_new {w : World} {k i : Nat} {cs : Array Value} {t : TypeId} (h : w.heap[k]? = some (.cells cs t (0, 0))) : w.frozen? ⟨k, i, none⟩ = false := frozen_of_row w k i cs t h

def BoxM (w : World) (k : Nat) (c0 c1 c2 c3 c4 c5 c6 : Value) : Prop := w.heap[k]? = some (.cells #[c0, c1, c2, c3, c4, c5, c6] 46 (0, 0))
theorem BoxM.cells {w : World} {k : Nat} {c0 c1 c2 c3 c4 c5 c6 : Value} (h : BoxM w k c0 c1 c2 c3 c4 c5 c6) : w.cell? ⟨k, 0, none⟩ = some c0 ∧ w.cell? ⟨k, 1, none⟩ = some c1 ∧ w.cell? ⟨k, 2, none⟩ = some c2 ∧ w.cell? ⟨k, 3, none⟩ = some c3 ∧ w.cell? ⟨k, 4, none⟩ = some c4 ∧ w.cell? ⟨k, 5, none⟩ = some c5 ∧ w.cell? ⟨k, 6, none⟩ = some c6 :=
  ⟨cell_of_block' h _ rfl, cell_of_block' h _ rfl, cell_of_block' h _ rfl, cell_of_block' h _ rfl, cell_of_block' h _ rfl, cell_of_block' h _ rfl, cell_of_block' h _ rfl⟩
theorem BoxM.lt {w : World} {k : Nat} {c0 c1 c2 c3 c4 c5 c6 : Value} (h : BoxM w k c0 c1 c2 c3 c4 c5 c6) : k < w.heap.size := (Array.getElem?_eq_some_iff.1 h).1
theorem BoxM.on {w w' : World} {k : Nat} {c0 c1 c2 c3 c4 c5 c6 : Value} (h : BoxM w k c0 c1 c2 c3 c4 c5 c6) (hb : Below w.heap.size w w') : BoxM w' k c0 c1 c2 c3 c4 c5 c6 := (hb.block k h.lt).trans h
theorem boxM_new (w : World) (c0 c1 c2 c3 c4 c5 c6 : Value) : BoxM (w.alloc (.cells #[c0, c1, c2, c3, c4, c5, c6] 46)) w.heap.size c0 c1 c2 c3 c4 c5 c6 := alloc_new' _ _

def BoxLi (w : World) (k : Nat) (c0 c1 c2 : Value) : Prop := w.heap[k]? = some (.cells #[c0, c1, c2] 41 (0, 0))
theorem BoxLi.cells {w : World} {k : Nat} {c0 c1 c2 : Value} (h : BoxLi w k c0 c1 c2) : w.cell? ⟨k, 0, none⟩ = some c0 ∧ w.cell? ⟨k, 1, none⟩ = some c1 ∧ w.cell? ⟨k, 2, none⟩ = some c2 :=
  ⟨cell_of_block' h _ rfl, cell_of_block' h _ rfl, cell_of_block' h _ rfl⟩
theorem BoxLi.lt {w : World} {k : Nat} {c0 c1 c2 : Value} (h : BoxLi w k c0 c1 c2) : k < w.heap.size := (Array.getElem?_eq_some_iff.1 h).1
theorem BoxLi.on {w w' : World} {k : Nat} {c0 c1 c2 : Value} (h : BoxLi w k c0 c1 c2) (hb : Below w.heap.size w w') : BoxLi w' k c0 c1 c2 := (hb.block k h.lt).trans h
theorem boxLi_new (w : World) (c0 c1 c2 : Value) : BoxLi (w.alloc (.cells #[c0, c1, c2] 41)) w.heap.size c0 c1 c2 := alloc_new' _ _

def BoxRu (w : World) (k : Nat) (c0 c1 c2 c3 c4 c5 : Value) : Prop := w.heap[k]? = some (.cells #[c0, c1, c2, c3, c4, c5] 37 (0, 0))
theorem BoxRu.cells {w : World} {k : Nat} {c0 c1 c2 c3 c4 c5 : Value} (h : BoxRu w k c0 c1 c2 c3 c4 c5) : w.cell? ⟨k, 0, none⟩ = some c0 ∧ w.cell? ⟨k, 1, none⟩ = some c1 ∧ w.cell? ⟨k, 2, none⟩ = some c2 ∧ w.cell? ⟨k, 3, none⟩ = some c3 ∧ w.cell? ⟨k, 4, none⟩ = some c4 ∧ w.cell? ⟨k, 5, none⟩ = some c5 :=
  ⟨cell_of_block' h _ rfl, cell_of_block' h _ rfl, cell_of_block' h _ rfl, cell_of_block' h _ rfl, cell_of_block' h _ rfl, cell_of_block' h _ rfl⟩
theorem BoxRu.lt {w : World} {k : Nat} {c0 c1 c2 c3 c4 c5 : Value} (h : BoxRu w k c0 c1 c2 c3 c4 c5) : k < w.heap.size := (Array.getElem?_eq_some_iff.1 h).1
theorem BoxRu.on {w w' : World} {k : Nat} {c0 c1 c2 c3 c4 c5 : Value} (h : BoxRu w k c0 c1 c2 c3 c4 c5) (hb : Below w.heap.size w w') : BoxRu w' k c0 c1 c2 c3 c4 c5 := (hb.block k h.lt).trans h
theorem boxRu_new (w : World) (c0 c1 c2 c3 c4 c5 : Value) : BoxRu (w.alloc (.cells #[c0, c1, c2, c3, c4, c5] 37)) w.heap.size c0 c1 c2 c3 c4 c5 := alloc_new' _ _

def BoxDe (w : World) (k : Nat) (c0 c1 : Value) : Prop := w.heap[k]? = some (.cells #[c0, c1] 57 (0, 0))
theorem BoxDe.cells {w : World} {k : Nat} {c0 c1 : Value} (h : BoxDe w k c0 c1) : w.cell? ⟨k, 0, none⟩ = some c0 ∧ w.cell? ⟨k, 1, none⟩ = some c1 :=
  ⟨cell_of_block' h _ rfl, cell_of_block' h _ rfl⟩
theorem BoxDe.lt {w : World} {k : Nat} {c0 c1 : Value} (h : BoxDe w k c0 c1) : k < w.heap.size := (Array.getElem?_eq_some_iff.1 h).1
theorem BoxDe.on {w w' : World} {k : Nat} {c0 c1 : Value} (h : BoxDe w k c0 c1) (hb : Below w.heap.size w w') : BoxDe w' k c0 c1 := (hb.block k h.lt).trans h
theorem boxDe_new (w : World) (c0 c1 : Value) : BoxDe (w.alloc (.cells #[c0, c1] 57)) w.heap.size c0 c1 := alloc_new' _ _

def BoxFa (w : World) (k : Nat) (c0 c1 : Value) : Prop := w.heap[k]? = some (.cells #[c0, c1] 33 (0, 0))
theorem BoxFa.cells {w : World} {k : Nat} {c0 c1 : Value} (h : BoxFa w k c0 c1) : w.cell? ⟨k, 0, none⟩ = some c0 ∧ w.cell? ⟨k, 1, none⟩ = some c1 :=
  ⟨cell_of_block' h _ rfl, cell_of_block' h _ rfl⟩
theorem BoxFa.lt {w : World} {k : Nat} {c0 c1 : Value} (h : BoxFa w k c0 c1) : k < w.heap.size := (Array.getElem?_eq_some_iff.1 h).1
theorem BoxFa.on {w w' : World} {k : Nat} {c0 c1 : Value} (h : BoxFa w k c0 c1) (hb : Below w.heap.size w w') : BoxFa w' k c0 c1 := (hb.block k h.lt).trans h
theorem boxFa_new (w : World) (c0 c1 : Value) : BoxFa (w.alloc (.cells #[c0, c1] 33)) w.heap.size c0 c1 := alloc_new' _ _

def BoxPr (w : World) (k : Nat) (c0 c1 c2 : Value) : Prop := w.heap[k]? = some (.cells #[c0, c1, c2] 26 (0, 0))
theorem BoxPr.cells {w : World} {k : Nat} {c0 c1 c2 : Value} (h : BoxPr w k c0 c1 c2) : w.cell? ⟨k, 0, none⟩ = some c0 ∧ w.cell? ⟨k, 1, none⟩ = some c1 ∧ w.cell? ⟨k, 2, none⟩ = some c2 :=
  ⟨cell_of_block' h _ rfl, cell_of_block' h _ rfl, cell_of_block' h _ rfl⟩
theorem BoxPr.lt {w : World} {k : Nat} {c0 c1 c2 : Value} (h : BoxPr w k c0 c1 c2) : k < w.heap.size := (Array.getElem?_eq_some_iff.1 h).1
theorem BoxPr.on {w w' : World} {k : Nat} {c0 c1 c2 : Value} (h : BoxPr w k c0 c1 c2) (hb : Below w.heap.size w w') : BoxPr w' k c0 c1 c2 := (hb.block k h.lt).trans h
theorem boxPr_new (w : World) (c0 c1 c2 : Value) : BoxPr (w.alloc (.cells #[c0, c1, c2] 26)) w.heap.size c0 c1 c2 := alloc_new' _ _


end Go.Proofs.YtgjemmdhamkngaaGreatDoor

/-
  A region that draws its order, by facts that stand: each operation, whenever it comes up, makes its own fact and leaves the others' as they are.
-/
namespace Go.Proofs.YtgjemmdhamkngaaGreatDoor
open Go

theorem countP_lt {p q : Nat → Bool} {i : Nat} (hpq : ∀ j, q j = true → p j = true) (hp : p i = true) (hq : q i = false) : ∀ l : List Nat, i ∈ l → l.countP q < l.countP p
  | [], hi => by cases hi
  | x :: l, hi => by
    rw [List.countP_cons, List.countP_cons]
    have hle : l.countP q ≤ l.countP p := List.countP_mono_left (fun j _ => hpq j)
    by_cases e : x = i
    · subst e; rw [hp, hq]; simp; omega
    · have hm : i ∈ l := by
        rcases List.mem_cons.1 hi with h | h
        · exact absurd h.symm e
        · exact h
      have := countP_lt hpq hp hq l hm
      have h2 : (if q x = true then 1 else 0) ≤ (if p x = true then 1 else 0) := by
        by_cases h : q x = true
        · rw [if_pos h, if_pos (hpq x h)]; exact Nat.le_refl _
        · rw [if_neg h]; omega
      omega

section
variable {P : Program} {ops : Array Oper} {Q : Exit → Act → World → Prop} {md : Region.Mode}

theorem getD_lt {listed : Array Bool} {i : Nat} (h : listed.getD i true = false) : i < listed.size := by
  rcases Nat.lt_or_ge i listed.size with h' | h'
  · exact h'
  · simp [Array.getElem?_eq_none h'] at h

theorem wpAny_inv (J : Array Bool → Act → World → Prop)
    (hstep : ∀ listed a w i, J listed a w → i ∈ Region.ready md ops listed → wpOp P ops Q i (fun a' w' => J (listed.setIfInBounds i true) a' w') a w)
    (hend : ∀ listed a w, J listed a w → Region.ready md ops listed = [] → Q .normal a w) :
    ∀ (fuel : Nat) (listed : Array Bool) (a : Act) (w : World), (List.range ops.size).countP (fun j => !listed.getD j true) ≤ fuel → J listed a w → wpAny P md ops Q fuel listed a w
  | 0, listed, a, w, hc, hJ => by
    have hr : Region.ready md ops listed = [] := by
      apply List.eq_nil_iff_forall_not_mem.2
      intro i hi
      obtain ⟨h1, o, ho, -⟩ := mem_ready.1 hi
      have : 0 < (List.range ops.size).countP (fun j => !listed.getD j true) := List.countP_pos_iff.2 ⟨i, List.mem_range.2 (Array.getElem?_eq_some_iff.1 ho).1, by rw [h1]; rfl⟩
      omega
    exact ⟨hr, hend _ _ _ hJ hr⟩
  | fuel + 1, listed, a, w, hc, hJ => by
    refine ⟨hend _ _ _ hJ, fun i hi => wpOp_mono (fun a' w' h => wpAny_inv J hstep hend fuel _ a' w' ?_ h) (hstep _ _ _ _ hJ hi)⟩
    obtain ⟨h1, o, ho, -⟩ := mem_ready.1 hi
    have hin := getD_lt h1
    have := countP_lt (p := fun j => !listed.getD j true) (q := fun j => !(listed.setIfInBounds i true).getD j true) (i := i) (fun j hj => by
        by_cases e : i = j
        · subst e; simp [h1]
        · rw [getD_set_ne true e] at hj; exact hj) (by simp [h1]) (by simp [hin]) _ (List.mem_range.2 (Array.getElem?_eq_some_iff.1 ho).1)
    omega

theorem none_listed (m j : Nat) : (Array.replicate m false).getD j false = false := by
  rcases Nat.lt_or_ge j m with h | h
  · simp [h]
  · simp [h]
/-- a differs from b at the operations' results alone. -/
structure Off (ops : Array Oper) (b a : Act) : Prop where
  same : a.defers = b.defers
  size : a.tmps.size = b.tmps.size
  off : ∀ k, (∀ (i : Nat) (o : Oper), ops[i]? = some o → o.dst ≠ some k) → a.tmps[k]? = b.tmps[k]?
theorem Off.refl (ops : Array Oper) (a : Act) : Off ops a a := ⟨rfl, rfl, fun _ _ => rfl⟩
theorem Off.put {b a : Act} (h : Off ops b a) {i : Nat} {o : Oper} {d : Tmp} (ho : ops[i]? = some o) (hd : o.dst = some d) (v : Value) : Off ops b (a.put (some d) v) :=
  ⟨h.same, by show (a.tmps.setIfInBounds d v).size = _; rw [Array.size_setIfInBounds]; exact h.size, fun k hk => by
    have hne : d ≠ k := fun e => hk i o ho (by rw [hd, e])
    show (a.tmps.setIfInBounds d v)[k]? = _
    rw [Array.getElem?_setIfInBounds, if_neg hne]
    exact h.off k hk⟩

/-- No operation waits for another one's guard, each has a result of its own, and each waits for earlier ones alone. -/
def okOps (ops : Array Oper) (n : Nat) : Bool :=
  (List.range ops.size).all fun i => match ops[i]? with
    | none => true
    | some o => o.guard.isNone && (match o.dst with | some d => decide (d < n) | none => false) && o.after.all (fun e => decide (e.on < i)) &&
      (List.range ops.size).all fun j => j == i || (match ops[j]? with | some o' => !(o'.dst == o.dst) | none => true)
theorem okOps.at {n i : Nat} {o : Oper} (h : okOps ops n = true) (ho : ops[i]? = some o) : o.guard = none ∧ (∃ d, o.dst = some d ∧ d < n) ∧ (∀ e ∈ o.after, e.on < i) ∧ ∀ j o', ops[j]? = some o' → j ≠ i → o'.dst ≠ o.dst := by
  unfold okOps at h
  rw [List.all_eq_true] at h
  have h1 := h i (List.mem_range.2 (Array.getElem?_eq_some_iff.1 ho).1)
  rw [ho] at h1
  simp only [Bool.and_eq_true] at h1
  obtain ⟨⟨⟨g1, g2⟩, g3⟩, g4⟩ := h1
  refine ⟨Option.isNone_iff_eq_none.1 g1, ?_, ?_, ?_⟩
  · split at g2
    · rename_i d hd; exact ⟨d, hd, of_decide_eq_true g2⟩
    · cases g2
  · intro e he
    exact of_decide_eq_true (Array.all_eq_true_iff_forall_mem.1 g3 e he)
  · intro j o' hj hne he
    rw [List.all_eq_true] at g4
    have h2 := g4 j (List.mem_range.2 (Array.getElem?_eq_some_iff.1 hj).1)
    rw [hj] at h2
    simp [hne, he] at h2

/-- What is asked of one operation. -/
def StepOf (P : Program) (md : Region.Mode) (ops : Array Oper) (A : Act) (F : World → Nat → Value → Prop) (G : World → Prop) (Q : Exit → Act → World → Prop) (i : Nat) (o : Oper) : Prop :=
  ∀ (a : Act) (w : World), Off ops A a → G w →
    (∀ (j : Nat) (o' : Oper) (d : Tmp), (o.after.any fun e => Region.binds md e && e.on == j) = true → ops[j]? = some o' → o'.dst = some d → ∃ v, a.tmps[d]? = some v ∧ F w j v) →
    ∀ K : Act → World → Prop, Shut (∀ v w', G w' → F w' i v → (∀ j u, F w j u → F w' j u) → K (a.put o.dst v) w') → Oper.wp P o a w K Q
def Steps (P : Program) (md : Region.Mode) (ops : Array Oper) (A : Act) (F : World → Nat → Value → Prop) (G : World → Prop) (Q : Exit → Act → World → Prop) : Nat → List Oper → Prop
  | _, [] => True
  | i, o :: os => StepOf P md ops A F G Q i o ∧ Steps P md ops A F G Q (i + 1) os
theorem Steps.at {A : Act} {F : World → Nat → Value → Prop} {G : World → Prop} : ∀ (os : List Oper) (k i : Nat) (o : Oper), Steps P md ops A F G Q k os → os[i]? = some o → StepOf P md ops A F G Q (k + i) o
  | [], _, _, _, _, h => by simp at h
  | x :: os, k, 0, o, hs, h => by simp at h; subst h; exact hs.1
  | x :: os, k, i + 1, o, hs, h => by
    have := Steps.at os (k + 1) i o hs.2 (by simpa using h)
    rw [show k + (i + 1) = k + 1 + i by omega]; exact this

theorem wp_region_facts {id : Nat} {A : Act} {w : World} (hm : P.follows .mixedOrders = true) (n : Nat) (hn : A.tmps.size = n) (hok : okOps ops n = true) (F : World → Nat → Value → Prop) (G : World → Prop) (hG : G w.drew)
    (hsteps : Steps P .any ops A F G Q 0 ops.toList)
    (hend : ∀ a w, Off ops A a → G w → (∀ (i : Nat) (o : Oper) (d : Tmp), ops[i]? = some o → o.dst = some d → ∃ v, a.tmps[d]? = some v ∧ F w i v) → Q .normal a w) :
    (Code.region id ops true).wp P Q A w := by
  refine wp_region_any hm (wpAny_inv (J := fun listed a w => listed.size = ops.size ∧ Off ops A a ∧ G w ∧ ∀ (i : Nat) (o : Oper) (d : Tmp), ops[i]? = some o → o.dst = some d → listed.getD i false = true → ∃ v, a.tmps[d]? = some v ∧ F w i v) ?_ ?_ _ _ _ _ ?_ ?_)
  · rintro listed a w i ⟨hsz, hoff, hg, hf⟩ hi
    obtain ⟨h1, o, ho, hall⟩ := mem_ready.1 hi
    obtain ⟨k1, ⟨d, k2, k3⟩, -, k4⟩ := okOps.at hok ho
    have hin := getD_lt h1
    have hst := Steps.at ops.toList 0 i o hsteps (by simpa using ho)
    rw [Nat.zero_add] at hst
    unfold wpOp
    rw [ho]
    simp only
    rw [if_pos (by unfold Region.wanted; rw [k1])]
    refine .inl (hst a w hoff hg (fun j o' d' hj ho' hd' => ?_) _ fun v w' hg' hf' hstay => ?_)
    · obtain ⟨e, he, hb⟩ := Array.any_eq_true'.1 hj
      simp only [Bool.and_eq_true, beq_iff_eq] at hb
      exact hf j o' d' ho' hd' (by rw [← hb.2]; exact hall e he hb.1)
    · rw [k2]
      refine ⟨by rw [Array.size_setIfInBounds]; exact hsz, hoff.put ho k2 v, hg', fun j o' d' ho' hd' hl => ?_⟩
      by_cases e : j = i
      · subst e
        obtain rfl : o' = o := Option.some.inj (ho'.symm.trans ho)
        obtain rfl : d' = d := Option.some.inj (hd'.symm.trans k2)
        refine ⟨v, ?_, hf'⟩
        show (a.tmps.setIfInBounds d' v)[d']? = _
        rw [Array.getElem?_setIfInBounds, if_pos rfl, if_pos (by rw [hoff.size, hn]; exact k3)]
      · rw [getD_set_ne false (fun h => e h.symm)] at hl
        obtain ⟨u, hu, hF⟩ := hf j o' d' ho' hd' hl
        refine ⟨u, ?_, hstay j u hF⟩
        have hne : d ≠ d' := fun h => k4 j o' ho' e (by rw [hd', k2, h])
        show (a.tmps.setIfInBounds d v)[d']? = _
        rw [Array.getElem?_setIfInBounds, if_neg hne]; exact hu
  · rintro listed a w ⟨hsz, hoff, hg, hf⟩ hr
    refine hend a w hoff hg fun i o d ho hd => hf i o d ho hd ?_
    have all : ∀ i, i < ops.size → listed.getD i false = true := by
      intro i
      induction i using Nat.strongRecOn with
      | _ i ih =>
        intro hi
        cases hl : listed.getD i true with
        | true => simpa [hsz, hi] using hl
        | false =>
          have ho : ops[i]? = some ops[i] := Array.getElem?_eq_getElem hi
          have : i ∈ Region.ready .any ops listed := mem_ready.2 ⟨hl, ops[i], ho, fun e he _ => ih e.on ((okOps.at hok ho).2.2.1 e he) (Nat.lt_trans ((okOps.at hok ho).2.2.1 e he) hi)⟩
          rw [hr] at this; cases this
    exact all i (Array.getElem?_eq_some_iff.1 ho).1
  · exact Nat.le_trans List.countP_le_length (by simp)
  · exact ⟨by simp, Off.refl _ _, hG, fun i o d _ _ hl => by rw [none_listed] at hl; cases hl⟩

/-- The state behind the region, written out. -/
theorem sets_eq : ∀ (dvs : List (Nat × Value)) (x b : Array Value), x.size = b.size → (∀ k, k ∉ dvs.map (·.1) → x[k]? = b[k]?) → (∀ p ∈ dvs, x[p.1]? = some p.2) → x = dvs.foldl (fun y p => y.setIfInBounds p.1 p.2) b
  | [], x, b, _, h, _ => by
    apply Array.ext_getElem?
    intro k; exact h k (by simp)
  | p :: dvs, x, b, hs, h, hv => by
    rw [List.foldl_cons]
    refine sets_eq dvs x _ (by rw [Array.size_setIfInBounds]; exact hs) (fun k hk => ?_) (fun q hq => hv q (List.mem_cons_of_mem _ hq))
    rw [Array.getElem?_setIfInBounds]
    by_cases e : p.1 = k
    · subst e
      have h1 := hv p (by simp)
      rw [if_pos rfl, if_pos (by rw [← hs]; exact (Array.getElem?_eq_some_iff.1 h1).1)]
      exact h1
    · rw [if_neg e]
      exact h k (by simp only [List.map_cons, List.mem_cons, not_or]; exact ⟨fun h => e h.symm, hk⟩)
theorem Off.sets {b a : Act} (h : Off ops b a) (dvs : List (Nat × Value)) (hd : (ops.toList.all fun o => match o.dst with | some d => (dvs.map (·.1)).contains d | none => true) = true) (hv : ∀ p ∈ dvs, a.tmps[p.1]? = some p.2) :
    a = { b with tmps := dvs.foldl (fun y p => y.setIfInBounds p.1 p.2) b.tmps } := by
  cases a with
  | mk t ds =>
    have e1 : ds = b.defers := h.same
    subst e1
    congr 1
    refine sets_eq dvs t b.tmps h.size (fun k hk => h.off k fun i o ho hdk => hk ?_) hv
    rw [List.all_eq_true] at hd
    have := hd o (by rw [Array.mem_toList_iff]; exact Array.mem_of_getElem? ho)
    rw [hdk] at this
    simpa using this
end
end Go.Proofs.YtgjemmdhamkngaaGreatDoor

/-
  A region that draws its order, some of its operations guarded: by facts that stand.
-/
namespace Go.Proofs.YtgjemmdhamkngaaGreatDoor
open Go

section
variable {P : Program} {ops : Array Oper} {Q : Exit → Act → World → Prop} {md : Region.Mode}

/-- Each operation has a result of its own, and waits for earlier ones alone. -/
def okOpsG (ops : Array Oper) (n : Nat) : Bool :=
  (List.range ops.size).all fun i => match ops[i]? with
    | none => true
    | some o => (match o.dst with | some d => decide (d < n) | none => false) && o.after.all (fun e => decide (e.on < i)) &&
      (List.range ops.size).all fun j => j == i || (match ops[j]? with | some o' => !(o'.dst == o.dst) | none => true)
theorem okOpsG.at {n i : Nat} {o : Oper} (h : okOpsG ops n = true) (ho : ops[i]? = some o) : (∃ d, o.dst = some d ∧ d < n) ∧ (∀ e ∈ o.after, e.on < i) ∧ ∀ j o', ops[j]? = some o' → j ≠ i → o'.dst ≠ o.dst := by
  unfold okOpsG at h
  rw [List.all_eq_true] at h
  have h1 := h i (List.mem_range.2 (Array.getElem?_eq_some_iff.1 ho).1)
  rw [ho] at h1
  simp only [Bool.and_eq_true] at h1
  obtain ⟨⟨g2, g3⟩, g4⟩ := h1
  refine ⟨?_, ?_, ?_⟩
  · split at g2
    · rename_i d hd; exact ⟨d, hd, of_decide_eq_true g2⟩
    · cases g2
  · intro e he
    exact of_decide_eq_true (Array.all_eq_true_iff_forall_mem.1 g3 e he)
  · intro j o' hj hne he
    rw [List.all_eq_true] at g4
    have h2 := g4 j (List.mem_range.2 (Array.getElem?_eq_some_iff.1 hj).1)
    rw [hj] at h2
    simp [hne, he] at h2

/-- What is asked of one operation. -/
def StepG (P : Program) (md : Region.Mode) (ops : Array Oper) (A : Act) (F : World → Nat → Value → Prop) (G : World → Prop) (Q : Exit → Act → World → Prop) (i : Nat) (o : Oper) : Prop :=
  ∀ (a : Act) (w : World), Off ops A a → G w →
    (∀ (j : Nat) (o' : Oper) (d : Tmp), (o.after.any fun e => Region.binds md e && e.on == j) = true → ops[j]? = some o' → o'.dst = some d → ∃ v, a.tmps[d]? = some v ∧ F w j v) →
    ∀ K : Act → World → Prop, Shut (∀ v w', G w' → F w' i v → (∀ j u, F w j u → F w' j u) → K (a.put o.dst v) w') → if Region.wanted o (yielded ops a.tmps) = true then Oper.wp P o a w K Q else K (a.put o.dst undef) w
def StepsG (P : Program) (md : Region.Mode) (ops : Array Oper) (A : Act) (F : World → Nat → Value → Prop) (G : World → Prop) (Q : Exit → Act → World → Prop) : Nat → List Oper → Prop
  | _, [] => True
  | i, o :: os => StepG P md ops A F G Q i o ∧ StepsG P md ops A F G Q (i + 1) os
theorem StepsG.at {A : Act} {F : World → Nat → Value → Prop} {G : World → Prop} : ∀ (os : List Oper) (k i : Nat) (o : Oper), StepsG P md ops A F G Q k os → os[i]? = some o → StepG P md ops A F G Q (k + i) o
  | [], _, _, _, _, h => by simp at h
  | x :: os, k, 0, o, hs, h => by simp at h; subst h; exact hs.1
  | x :: os, k, i + 1, o, hs, h => by
    have := StepsG.at os (k + 1) i o hs.2 (by simpa using h)
    rw [show k + (i + 1) = k + 1 + i by omega]; exact this

theorem wp_region_factsG {id : Nat} {A : Act} {w : World} (hm : P.follows .mixedOrders = true) (n : Nat) (hn : A.tmps.size = n) (hok : okOpsG ops n = true) (F : World → Nat → Value → Prop) (G : World → Prop) (hG : G w.drew)
    (hsteps : StepsG P .any ops A F G Q 0 ops.toList)
    (hend : ∀ a w, Off ops A a → G w → (∀ (i : Nat) (o : Oper) (d : Tmp), ops[i]? = some o → o.dst = some d → ∃ v, a.tmps[d]? = some v ∧ F w i v) → Q .normal a w) :
    (Code.region id ops true).wp P Q A w := by
  refine wp_region_any hm (wpAny_inv (J := fun listed a w => listed.size = ops.size ∧ Off ops A a ∧ G w ∧ ∀ (i : Nat) (o : Oper) (d : Tmp), ops[i]? = some o → o.dst = some d → listed.getD i false = true → ∃ v, a.tmps[d]? = some v ∧ F w i v) ?_ ?_ _ _ _ _ ?_ ?_)
  · rintro listed a w i ⟨hsz, hoff, hg, hf⟩ hi
    obtain ⟨h1, o, ho, hall⟩ := mem_ready.1 hi
    obtain ⟨⟨d, k2, k3⟩, -, k4⟩ := okOpsG.at hok ho
    have hin := getD_lt h1
    have hst := StepsG.at ops.toList 0 i o hsteps (by simpa using ho)
    rw [Nat.zero_add] at hst
    unfold wpOp
    rw [ho]
    simp only
    have key := hst a w hoff hg (fun j o' d' hj ho' hd' => by
      obtain ⟨e, he, hb⟩ := Array.any_eq_true'.1 hj
      simp only [Bool.and_eq_true, beq_iff_eq] at hb
      exact hf j o' d' ho' hd' (by rw [← hb.2]; exact hall e he hb.1)) (fun a' w' => (listed.setIfInBounds i true).size = ops.size ∧ Off ops A a' ∧ G w' ∧ ∀ (j : Nat) (o : Oper) (d : Tmp), ops[j]? = some o → o.dst = some d → (listed.setIfInBounds i true).getD j false = true → ∃ v, a'.tmps[d]? = some v ∧ F w' j v) (fun v w' hg' hf' hstay => by
      rw [k2]
      refine ⟨by rw [Array.size_setIfInBounds]; exact hsz, hoff.put ho k2 v, hg', fun j o' d' ho' hd' hl => ?_⟩
      by_cases e : j = i
      · subst e
        obtain rfl : o' = o := Option.some.inj (ho'.symm.trans ho)
        obtain rfl : d' = d := Option.some.inj (hd'.symm.trans k2)
        refine ⟨v, ?_, hf'⟩
        show (a.tmps.setIfInBounds d' v)[d']? = _
        rw [Array.getElem?_setIfInBounds, if_pos rfl, if_pos (by rw [hoff.size, hn]; exact k3)]
      · rw [getD_set_ne false (fun h => e h.symm)] at hl
        obtain ⟨u, hu, hF⟩ := hf j o' d' ho' hd' hl
        refine ⟨u, ?_, hstay j u hF⟩
        have hne : d ≠ d' := fun h => k4 j o' ho' e (by rw [hd', k2, h])
        show (a.tmps.setIfInBounds d v)[d']? = _
        rw [Array.getElem?_setIfInBounds, if_neg hne]; exact hu)
    split
    · rename_i hw; rw [if_pos hw] at key; exact .inl key
    · rename_i hw; rw [if_neg hw] at key; exact key
  · rintro listed a w ⟨hsz, hoff, hg, hf⟩ hr
    refine hend a w hoff hg fun i o d ho hd => hf i o d ho hd ?_
    have all : ∀ i, i < ops.size → listed.getD i false = true := by
      intro i
      induction i using Nat.strongRecOn with
      | _ i ih =>
        intro hi
        cases hl : listed.getD i true with
        | true => simpa [hsz, hi] using hl
        | false =>
          have ho : ops[i]? = some ops[i] := Array.getElem?_eq_getElem hi
          have : i ∈ Region.ready .any ops listed := mem_ready.2 ⟨hl, ops[i], ho, fun e he _ => ih e.on ((okOpsG.at hok ho).2.1 e he) (Nat.lt_trans ((okOpsG.at hok ho).2.1 e he) hi)⟩
          rw [hr] at this; cases this
    exact all i (Array.getElem?_eq_some_iff.1 ho).1
  · exact Nat.le_trans List.countP_le_length (by simp)
  · exact ⟨by simp, Off.refl _ _, hG, fun i o d _ _ hl => by rw [none_listed] at hl; cases hl⟩

theorem off_at {b a : Act} (h : Off ops b a) (k : Nat) {v : Value} (hd : (ops.toList.all fun o => o.dst != some k) = true) (hv : b.tmps[k]? = some v) : a.tmps[k]? = some v :=
  (h.off k fun i o ho he => by
    rw [List.all_eq_true] at hd
    have := hd o (by rw [Array.mem_toList_iff]; exact Array.mem_of_getElem? ho)
    rw [he] at this; simp at this).trans hv
end
end Go.Proofs.YtgjemmdhamkngaaGreatDoor

/-
  printer's rightWithin and rightParts: terms so deep at most.
-/
namespace Go.Proofs.YtgjemmdhamkngaaGreatDoor
open Go.RowKit

def RightTmAt (d : Nat) : Prop := ∀ (t : Tm) (S : Nat → Prop) (w : World) (c0 c1 c2 c3 c4 c5 c6 : Value), (∀ k, S k → k < w.heap.size) → RepM S w t c0 c1 c2 c3 c4 c5 c6 →
  Calls Tryz.prog 96 #[.agg #[c0, c1, c2, c3, c4, c5, c6], .int .i64 d] w fun e w' => e = .returned (.bool (rightM d t)) ∧ Below w.heap.size w w'

set_option maxRecDepth 100000 in
set_option maxHeartbeats 1000000 in
theorem parts_of (d : Nat) (h : RightTmAt d) (l : List Tm) (n : Int) (S : Nat → Prop) (w : World) (a : Value) (hS : ∀ k, S k → k < w.heap.size) (ha : RepMs S w l a) :
    Calls Tryz.prog 116 #[a, .int .i64 n, .int .i64 d] w fun e w' => e = .returned (.bool (listB n n (rightM d) l)) ∧ Below w.heap.size w w' := by
  have HA := Lib.hid ha; have HH := Lib.hid h
  obtain ⟨aa, cap, rfl⟩ := SlG.form ha
  clear ha h
  go_enter Tryz.func116, Tryz.ntmps116
  go_wp2_with fail
  have b1 := below_alloc w (.cells #[.int .i64 d] 3)
  have n1 := alloc_new' w (.cells #[.int .i64 d] 3)
  have s1 := World.size_alloc w (.cells #[.int .i64 d] 3)
  generalize w.alloc (.cells #[.int .i64 d] 3) = w1 at *
  have B1 := Lib.hid b1; have N1 := Lib.hid n1; have S1 := Lib.hid s1
  clear b1 n1 s1
  refine (rl_parts l n n (rightM d) _ S w1 _ (fun k hk => Nat.lt_of_lt_of_le (hS k hk) B1.out.size) (RepMs.on (fun _ h => h) (fun k hk => B1.out.block k (hS k hk)) HA.out) ?_).mono ?_
  · intro wr hb x hx fa fc ga gc hr
    have HB := Lib.hid hb; have HR := Lib.hid hr
    have hq : wr.cell? ⟨w.heap.size, 0, none⟩ = some (.int .i64 d) := cell_of_block' ((hb.block w.heap.size (by have := S1.out; omega)).trans N1.out) _ rfl
    have b2 := below_alloc wr (.cells #[.int .i64 x.kind, .string x.name, .int .i64 x.val.kind, .int .i64 x.val.num, .string x.val.text, .slice fa x.val.list.length fc, .slice ga x.args.length gc] 46)
    have hq2 := (b2.cell (p := ⟨w.heap.size, 0, none⟩) (by have := hb.size; have := S1.out; simp; omega)).trans hq
    have B2 := Lib.hid b2
    clear hb hr b2
    go_enter Tryz.func127, Tryz.ntmps127
    go_wp2_with fail
    refine (HH.out x S _ _ _ _ _ _ _ _ (fun k hk => Nat.lt_of_lt_of_le (Nat.lt_of_lt_of_le (hS k hk) (Nat.le_trans B1.out.size HB.out.size)) B2.out.size) (RepM.on (fun _ h => h) (fun k hk => B2.out.block k (Nat.lt_of_lt_of_le (hS k hk) (Nat.le_trans B1.out.size HB.out.size))) x HR.out)).mono ?_
    rintro e w3 ⟨rfl, hb3⟩
    go_wp2_with fail
    go_ret
    exact ⟨rfl, Below.step B2.out hb3⟩
  · rintro e w2 ⟨rfl, hb2⟩
    go_wp2_with fail
    go_ret
    exact ⟨rfl, Below.step B1.out hb2⟩

set_option maxRecDepth 100000 in
set_option maxHeartbeats 4000000 in
theorem within_zero : RightTmAt 0 := by
  intro t S w c0 c1 c2 c3 c4 c5 c6 hS ht
  obtain ⟨fa, fc, ga, gc, rfl, rfl, rfl, rfl, rfl, rfl, rfl⟩ := ht.form
  have HF := Lib.hid (rightM_zero t)
  go_enter Tryz.func96, Tryz.ntmps96
  go_wp2_with fail
  have x1 := boxM_new w (.int .i64 t.kind) (.string t.name) (.int .i64 t.val.kind) (.int .i64 t.val.num) (.string t.val.text) (.slice fa t.val.list.length fc) (.slice ga t.args.length gc)
  have b1 := below_alloc w (.cells #[.int .i64 t.kind, .string t.name, .int .i64 t.val.kind, .int .i64 t.val.num, .string t.val.text, .slice fa t.val.list.length fc, .slice ga t.args.length gc] 46)
  generalize w.alloc (.cells #[.int .i64 t.kind, .string t.name, .int .i64 t.val.kind, .int .i64 t.val.num, .string t.val.text, .slice fa t.val.list.length fc, .slice ga t.args.length gc] 46) = w1 at *
  have X1 := Lib.hid x1; have B1 := Lib.hid b1
  clear x1 b1
  obtain ⟨p0, p1, p2, p3, p4, p5, p6⟩ := X1.out.cells
  go_ret
  exact ⟨ret_bool HF.out.symm, B1.out⟩

set_option maxRecDepth 100000 in
set_option maxHeartbeats 4000000 in
theorem within_succ (d : Nat) (hd : d ≤ 100) (h : RightTmAt d) : RightTmAt (d + 1) := by
  intro t S w c0 c1 c2 c3 c4 c5 c6 hS ht
  have HV := Lib.hid ht.value; have HL := Lib.hid ht.lst; have HH := Lib.hid h
  have HNS := Lib.hid ht.bounds.2
  obtain ⟨fa, fc, ga, gc, rfl, rfl, rfl, rfl, rfl, rfl, rfl⟩ := ht.form
  have HF0 : Hid (rightM (d + 1) t = if t.kind = 1 then varB t.name && (noneB t.val && t.args.isEmpty)
    else if t.kind = 2 then t.name.toList.isEmpty && (valB t.val && t.args.isEmpty)
    else if t.kind = 3 then noneB t.val && listB (fnArity (fnOf t.name)) (fnArity (fnOf t.name)) (rightM d) t.args
    else if t.kind = 4 then opB t.name && (noneB t.val && listB 2 2 (rightM d) t.args)
    else false) := by cases t; exact rightM_succ _ _ _ _ _
  clear ht h
  rw [show (((d + 1 : Nat)) : Int) = (d : Int) + 1 from by omega]
  have hd1 : decide ((d : Int) + 1 < 1) = false := by simp; omega
  have hd2 : (d : Int) + 1 - 1 = d := by omega
  have hd3 : IntKind.i64.wrap (d : Int) = d := by rw [IntKind.wrap_i64]; omega
  have hie := isEmpty_len t.args
  by_cases e1 : t.kind = 1
  · have HF1 : Hid (rightM (d + 1) t = (varB t.name && (noneB t.val && t.args.isEmpty))) := by show _ = _; rw [HF0.out, if_pos e1]
    have k1 : (t.kind == 1) = true := by simp [e1]
    clear HF0 e1
    cases h1 : varB t.name with
    | false =>
      have HF : Hid (rightM (d + 1) t = false) := by show _ = _; rw [HF1.out, h1, Bool.false_and]
      have H1 := Lib.hid h1; clear h1 HF1 hie
      go_enter Tryz.func96, Tryz.ntmps96
      go_wp2_with fail
      have x1 := boxM_new w (.int .i64 t.kind) (.string t.name) (.int .i64 t.val.kind) (.int .i64 t.val.num) (.string t.val.text) (.slice fa t.val.list.length fc) (.slice ga t.args.length gc)
      have b1 := below_alloc w (.cells #[.int .i64 t.kind, .string t.name, .int .i64 t.val.kind, .int .i64 t.val.num, .string t.val.text, .slice fa t.val.list.length fc, .slice ga t.args.length gc] 46)
      generalize w.alloc (.cells #[.int .i64 t.kind, .string t.name, .int .i64 t.val.kind, .int .i64 t.val.num, .string t.val.text, .slice fa t.val.list.length fc, .slice ga t.args.length gc] 46) = w1 at *
      have X1 := Lib.hid x1; have B1 := Lib.hid b1
      clear x1 b1
      obtain ⟨p0, p1, p2, p3, p4, p5, p6⟩ := X1.out.cells
      refine (variable_any t.name _ HNS.out).mono ?_
      rw [H1.out]
      rintro e w2 ⟨rfl, hb⟩
      have X2 := Lib.hid (X1.out.on hb); have B2 := Lib.hid (Below.step B1.out hb)
      clear hb p0 p1 p2 p3 p4 p5 p6
      obtain ⟨p0, p1, p2, p3, p4, p5, p6⟩ := X2.out.cells
      go_wp2_with fail
      go_ret
      exact ⟨ret_bool HF.out.symm, B2.out⟩
    | true =>
    cases h2 : noneB t.val with
    | false =>
      have HF : Hid (rightM (d + 1) t = false) := by show _ = _; rw [HF1.out, h1, h2]; rfl
      have H1 := Lib.hid h1; have HN := Lib.hid h2; clear h1 h2 HF1 hie
      go_enter Tryz.func96, Tryz.ntmps96
      go_wp2_with fail
      have x1 := boxM_new w (.int .i64 t.kind) (.string t.name) (.int .i64 t.val.kind) (.int .i64 t.val.num) (.string t.val.text) (.slice fa t.val.list.length fc) (.slice ga t.args.length gc)
      have b1 := below_alloc w (.cells #[.int .i64 t.kind, .string t.name, .int .i64 t.val.kind, .int .i64 t.val.num, .string t.val.text, .slice fa t.val.list.length fc, .slice ga t.args.length gc] 46)
      generalize w.alloc (.cells #[.int .i64 t.kind, .string t.name, .int .i64 t.val.kind, .int .i64 t.val.num, .string t.val.text, .slice fa t.val.list.length fc, .slice ga t.args.length gc] 46) = w1 at *
      have X1 := Lib.hid x1; have B1 := Lib.hid b1
      clear x1 b1
      obtain ⟨p0, p1, p2, p3, p4, p5, p6⟩ := X1.out.cells
      refine (variable_any t.name _ HNS.out).mono ?_
      rw [H1.out]
      rintro e w2 ⟨rfl, hb⟩
      have X2 := Lib.hid (X1.out.on hb); have B2 := Lib.hid (Below.step B1.out hb)
      clear hb p0 p1 p2 p3 p4 p5 p6
      obtain ⟨p0, p1, p2, p3, p4, p5, p6⟩ := X2.out.cells
      go_wp2_with fail
      refine (nothing_any t.val S w2 _ _ _ _ (RepG.on (fun _ h => h) (fun k hk => B2.out.block k (hS k hk)) t.val HV.out)).mono ?_
      rw [HN.out]
      rintro e w3 ⟨rfl, hb⟩
      have X3 := Lib.hid (X2.out.on hb); have B3 := Lib.hid (Below.step B2.out hb)
      clear hb p0 p1 p2 p3 p4 p5 p6
      obtain ⟨p0, p1, p2, p3, p4, p5, p6⟩ := X3.out.cells
      go_wp2_with fail
      go_ret
      exact ⟨ret_bool HF.out.symm, B3.out⟩
    | true =>
    cases h3 : ((t.args.length : Int) == 0)
    all_goals
      have HF := Lib.hid (show rightM (d + 1) t = _ by rw [HF1.out, h1, h2, hie, h3])
      have H1 := Lib.hid h1; have HN := Lib.hid h2; clear h1 h2 HF1 hie
      go_enter Tryz.func96, Tryz.ntmps96
      go_wp2_with fail
      have x1 := boxM_new w (.int .i64 t.kind) (.string t.name) (.int .i64 t.val.kind) (.int .i64 t.val.num) (.string t.val.text) (.slice fa t.val.list.length fc) (.slice ga t.args.length gc)
      have b1 := below_alloc w (.cells #[.int .i64 t.kind, .string t.name, .int .i64 t.val.kind, .int .i64 t.val.num, .string t.val.text, .slice fa t.val.list.length fc, .slice ga t.args.length gc] 46)
      generalize w.alloc (.cells #[.int .i64 t.kind, .string t.name, .int .i64 t.val.kind, .int .i64 t.val.num, .string t.val.text, .slice fa t.val.list.length fc, .slice ga t.args.length gc] 46) = w1 at *
      have X1 := Lib.hid x1; have B1 := Lib.hid b1
      clear x1 b1
      obtain ⟨p0, p1, p2, p3, p4, p5, p6⟩ := X1.out.cells
      refine (variable_any t.name _ HNS.out).mono ?_
      rw [H1.out]
      rintro e w2 ⟨rfl, hb⟩
      have X2 := Lib.hid (X1.out.on hb); have B2 := Lib.hid (Below.step B1.out hb)
      clear hb p0 p1 p2 p3 p4 p5 p6
      obtain ⟨p0, p1, p2, p3, p4, p5, p6⟩ := X2.out.cells
      go_wp2_with fail
      refine (nothing_any t.val S w2 _ _ _ _ (RepG.on (fun _ h => h) (fun k hk => B2.out.block k (hS k hk)) t.val HV.out)).mono ?_
      rw [HN.out]
      rintro e w3 ⟨rfl, hb⟩
      have X3 := Lib.hid (X2.out.on hb); have B3 := Lib.hid (Below.step B2.out hb)
      clear hb p0 p1 p2 p3 p4 p5 p6
      obtain ⟨p0, p1, p2, p3, p4, p5, p6⟩ := X3.out.cells
      go_wp2_with fail
      go_ret
      exact ⟨ret_bool HF.out.symm, B3.out⟩
  have k1 : (t.kind == 1) = false := by simp [e1]
  by_cases e2 : t.kind = 2
  · have HF1 : Hid (rightM (d + 1) t = (t.name.toList.isEmpty && (valB t.val && t.args.isEmpty))) := by show _ = _; rw [HF0.out, if_neg e1, if_pos e2]
    have k2 : (t.kind == 2) = true := by simp [e2]
    clear HF0 e1 e2
    cases h1 : t.name.toList.isEmpty with
    | false =>
      have HF : Hid (rightM (d + 1) t = false) := by show _ = _; rw [HF1.out, h1, Bool.false_and]
      clear HF1 hie
      go_enter Tryz.func96, Tryz.ntmps96
      go_wp2_with fail
      have x1 := boxM_new w (.int .i64 t.kind) (.string t.name) (.int .i64 t.val.kind) (.int .i64 t.val.num) (.string t.val.text) (.slice fa t.val.list.length fc) (.slice ga t.args.length gc)
      have b1 := below_alloc w (.cells #[.int .i64 t.kind, .string t.name, .int .i64 t.val.kind, .int .i64 t.val.num, .string t.val.text, .slice fa t.val.list.length fc, .slice ga t.args.length gc] 46)
      generalize w.alloc (.cells #[.int .i64 t.kind, .string t.name, .int .i64 t.val.kind, .int .i64 t.val.num, .string t.val.text, .slice fa t.val.list.length fc, .slice ga t.args.length gc] 46) = w1 at *
      have X1 := Lib.hid x1; have B1 := Lib.hid b1
      clear x1 b1
      obtain ⟨p0, p1, p2, p3, p4, p5, p6⟩ := X1.out.cells
      go_ret
      exact ⟨ret_bool HF.out.symm, B1.out⟩
    | true =>
    cases h2 : valB t.val with
    | false =>
      have HF : Hid (rightM (d + 1) t = false) := by show _ = _; rw [HF1.out, h1, h2]; rfl
      have HN := Lib.hid h2; clear h2 HF1 hie
      go_enter Tryz.func96, Tryz.ntmps96
      go_wp2_with fail
      have x1 := boxM_new w (.int .i64 t.kind) (.string t.name) (.int .i64 t.val.kind) (.int .i64 t.val.num) (.string t.val.text) (.slice fa t.val.list.length fc) (.slice ga t.args.length gc)
      have b1 := below_alloc w (.cells #[.int .i64 t.kind, .string t.name, .int .i64 t.val.kind, .int .i64 t.val.num, .string t.val.text, .slice fa t.val.list.length fc, .slice ga t.args.length gc] 46)
      generalize w.alloc (.cells #[.int .i64 t.kind, .string t.name, .int .i64 t.val.kind, .int .i64 t.val.num, .string t.val.text, .slice fa t.val.list.length fc, .slice ga t.args.length gc] 46) = w1 at *
      have X1 := Lib.hid x1; have B1 := Lib.hid b1
      clear x1 b1
      obtain ⟨p0, p1, p2, p3, p4, p5, p6⟩ := X1.out.cells
      refine (rightValue_any t.val S _ _ _ _ _ (fun k hk => Nat.lt_of_lt_of_le (hS k hk) B1.out.size) (RepG.on (fun _ h => h) (fun k hk => B1.out.block k (hS k hk)) t.val HV.out)).mono ?_
      rw [HN.out]
      rintro e w2 ⟨rfl, hb⟩
      have X2 := Lib.hid (X1.out.on hb); have B2 := Lib.hid (Below.step B1.out hb)
      clear hb p0 p1 p2 p3 p4 p5 p6
      obtain ⟨p0, p1, p2, p3, p4, p5, p6⟩ := X2.out.cells
      go_wp2_with fail
      go_ret
      exact ⟨ret_bool HF.out.symm, B2.out⟩
    | true =>
    cases h3 : ((t.args.length : Int) == 0)
    all_goals
      have HF := Lib.hid (show rightM (d + 1) t = _ by rw [HF1.out, h1, h2, hie, h3])
      have HN := Lib.hid h2; clear h2 HF1 hie
      go_enter Tryz.func96, Tryz.ntmps96
      go_wp2_with fail
      have x1 := boxM_new w (.int .i64 t.kind) (.string t.name) (.int .i64 t.val.kind) (.int .i64 t.val.num) (.string t.val.text) (.slice fa t.val.list.length fc) (.slice ga t.args.length gc)
      have b1 := below_alloc w (.cells #[.int .i64 t.kind, .string t.name, .int .i64 t.val.kind, .int .i64 t.val.num, .string t.val.text, .slice fa t.val.list.length fc, .slice ga t.args.length gc] 46)
      generalize w.alloc (.cells #[.int .i64 t.kind, .string t.name, .int .i64 t.val.kind, .int .i64 t.val.num, .string t.val.text, .slice fa t.val.list.length fc, .slice ga t.args.length gc] 46) = w1 at *
      have X1 := Lib.hid x1; have B1 := Lib.hid b1
      clear x1 b1
      obtain ⟨p0, p1, p2, p3, p4, p5, p6⟩ := X1.out.cells
      refine (rightValue_any t.val S _ _ _ _ _ (fun k hk => Nat.lt_of_lt_of_le (hS k hk) B1.out.size) (RepG.on (fun _ h => h) (fun k hk => B1.out.block k (hS k hk)) t.val HV.out)).mono ?_
      rw [HN.out]
      rintro e w2 ⟨rfl, hb⟩
      have X2 := Lib.hid (X1.out.on hb); have B2 := Lib.hid (Below.step B1.out hb)
      clear hb p0 p1 p2 p3 p4 p5 p6
      obtain ⟨p0, p1, p2, p3, p4, p5, p6⟩ := X2.out.cells
      go_wp2_with fail
      go_ret
      exact ⟨ret_bool HF.out.symm, B2.out⟩
  have k2 : (t.kind == 2) = false := by simp [e2]
  by_cases e3 : t.kind = 3
  · have HF1 : Hid (rightM (d + 1) t = (noneB t.val && listB (fnArity (fnOf t.name)) (fnArity (fnOf t.name)) (rightM d) t.args)) := by show _ = _; rw [HF0.out, if_neg e1, if_neg e2, if_pos e3]
    have k3 : (t.kind == 3) = true := by simp [e3]
    clear HF0 e1 e2 e3 hie
    obtain ⟨ar, har⟩ : ∃ n, fnArity (fnOf t.name) = n := ⟨_, rfl⟩
    have HAR := Lib.hid har
    obtain ⟨pb, hpb⟩ : ∃ b, listB ar ar (rightM d) t.args = b := ⟨_, rfl⟩
    have HPB := Lib.hid hpb
    have HF2 : Hid (rightM (d + 1) t = (noneB t.val && pb)) := by show _ = _; rw [HF1.out, har, hpb]
    clear HF1 har hpb
    cases h2 : noneB t.val with
    | false =>
      have HF : Hid (rightM (d + 1) t = false) := by show _ = _; rw [HF2.out, h2]; rfl
      have HN := Lib.hid h2; clear h2 HF2
      go_enter Tryz.func96, Tryz.ntmps96
      go_wp2_with fail
      have x1 := boxM_new w (.int .i64 t.kind) (.string t.name) (.int .i64 t.val.kind) (.int .i64 t.val.num) (.string t.val.text) (.slice fa t.val.list.length fc) (.slice ga t.args.length gc)
      have b1 := below_alloc w (.cells #[.int .i64 t.kind, .string t.name, .int .i64 t.val.kind, .int .i64 t.val.num, .string t.val.text, .slice fa t.val.list.length fc, .slice ga t.args.length gc] 46)
      generalize w.alloc (.cells #[.int .i64 t.kind, .string t.name, .int .i64 t.val.kind, .int .i64 t.val.num, .string t.val.text, .slice fa t.val.list.length fc, .slice ga t.args.length gc] 46) = w1 at *
      have X1 := Lib.hid x1; have B1 := Lib.hid b1
      clear x1 b1
      obtain ⟨p0, p1, p2, p3, p4, p5, p6⟩ := X1.out.cells
      generalize w.heap.size = bt at X1 ⊢
      refine wp_region_factsG (by rfl) 73 (by rfl) (by kernel_rfl) (fun _ i v => (i = 0 → v = .pointer (some ⟨bt, 2, none⟩)) ∧ (i = 1 → v = .agg #[.int .i64 t.val.kind, .int .i64 t.val.num, .string t.val.text, .slice fa t.val.list.length fc]) ∧ (i = 2 → v = .bool false) ∧ (i = 3 → v = .bool false) ∧ (i = 12 → v = .bool false) ∧ (i = 13 → v = .bool false)) (fun w' => Below w1.heap.size w1 w') (Below.drew (Below.refl _ _)) ⟨?s0, ?s1, ?s2, ?s3, ?s4, ?s5, ?s6, ?s7, ?s8, ?s9, ?s10, ?s11, ?s12, ?s13, trivial⟩ ?fin
      case s0 =>
        intro a w' hoff hg hdep K hK
        rw [if_pos (by rfl)]
        have h2 := off_at hoff 2 (v := .pointer (some ⟨bt, 0, none⟩)) (by kernel_rfl) rfl
        go_simp
        exact hK.out _ _ hg ⟨fun _ => rfl, fun h => absurd h (by decide), fun h => absurd h (by decide), fun h => absurd h (by decide), fun h => absurd h (by decide), fun h => absurd h (by decide)⟩ (fun _ _ h => h)
      case s1 =>
        intro a w' hoff hg hdep K hK
        obtain ⟨v0, e0, f0⟩ := hdep 0 _ 43 (by kernel_rfl) rfl rfl
        obtain rfl := f0.1 rfl
        rw [if_pos (by rfl)]
        obtain ⟨q0, q1, q2, q3, q4, q5, q6⟩ := (X1.out.on hg).cells
        go_simp
        exact hK.out _ _ hg ⟨fun h => absurd h (by decide), fun _ => rfl, fun h => absurd h (by decide), fun h => absurd h (by decide), fun h => absurd h (by decide), fun h => absurd h (by decide)⟩ (fun _ _ h => h)
      case s2 =>
        intro a w' hoff hg hdep K hK
        obtain ⟨v1, e1, f1⟩ := hdep 1 _ 44 (by kernel_rfl) rfl rfl
        obtain rfl := f1.2.1 rfl
        rw [if_pos (by rfl)]
        go_simp
        refine (nothing_any t.val S _ _ _ _ _ (RepG.on (fun _ h => h) (fun k hk => (Below.step B1.out hg).block k (hS k hk)) t.val HV.out)).mono ?_
        rw [HN.out]
        rintro e w2 ⟨rfl, hb⟩
        exact hK.out _ _ (Below.step hg hb) ⟨fun h => absurd h (by decide), fun h => absurd h (by decide), fun _ => rfl, fun h => absurd h (by decide), fun h => absurd h (by decide), fun h => absurd h (by decide)⟩ (fun _ _ h => h)
      case s3 =>
        intro a w' hoff hg hdep K hK
        obtain ⟨v2, e2, f2⟩ := hdep 2 _ 45 (by kernel_rfl) rfl rfl
        obtain rfl := f2.2.2.1 rfl
        rw [if_pos (by rfl)]
        go_simp
        exact hK.out _ _ hg ⟨fun h => absurd h (by decide), fun h => absurd h (by decide), fun h => absurd h (by decide), fun _ => rfl, fun h => absurd h (by decide), fun h => absurd h (by decide)⟩ (fun _ _ h => h)
      case s4 =>
        intro a w' hoff hg hdep K hK
        obtain ⟨v3, e3, f3⟩ := hdep 3 _ 46 (by kernel_rfl) rfl rfl
        obtain rfl := f3.2.2.2.1 rfl
        rw [if_neg (by simp [Region.wanted, yielded, e3])]
        exact hK.out _ _ hg ⟨fun h => absurd h (by decide), fun h => absurd h (by decide), fun h => absurd h (by decide), fun h => absurd h (by decide), fun h => absurd h (by decide), fun h => absurd h (by decide)⟩ (fun _ _ h => h)
      case s5 =>
        intro a w' hoff hg hdep K hK
        obtain ⟨v3, e3, f3⟩ := hdep 3 _ 46 (by kernel_rfl) rfl rfl
        obtain rfl := f3.2.2.2.1 rfl
        rw [if_neg (by simp [Region.wanted, yielded, e3])]
        exact hK.out _ _ hg ⟨fun h => absurd h (by decide), fun h => absurd h (by decide), fun h => absurd h (by decide), fun h => absurd h (by decide), fun h => absurd h (by decide), fun h => absurd h (by decide)⟩ (fun _ _ h => h)
      case s6 =>
        intro a w' hoff hg hdep K hK
        obtain ⟨v3, e3, f3⟩ := hdep 3 _ 46 (by kernel_rfl) rfl rfl
        obtain rfl := f3.2.2.2.1 rfl
        rw [if_neg (by simp [Region.wanted, yielded, e3])]
        exact hK.out _ _ hg ⟨fun h => absurd h (by decide), fun h => absurd h (by decide), fun h => absurd h (by decide), fun h => absurd h (by decide), fun h => absurd h (by decide), fun h => absurd h (by decide)⟩ (fun _ _ h => h)
      case s7 =>
        intro a w' hoff hg hdep K hK
        obtain ⟨v3, e3, f3⟩ := hdep 3 _ 46 (by kernel_rfl) rfl rfl
        obtain rfl := f3.2.2.2.1 rfl
        rw [if_neg (by simp [Region.wanted, yielded, e3])]
        exact hK.out _ _ hg ⟨fun h => absurd h (by decide), fun h => absurd h (by decide), fun h => absurd h (by decide), fun h => absurd h (by decide), fun h => absurd h (by decide), fun h => absurd h (by decide)⟩ (fun _ _ h => h)
      case s8 =>
        intro a w' hoff hg hdep K hK
        obtain ⟨v3, e3, f3⟩ := hdep 3 _ 46 (by kernel_rfl) rfl rfl
        obtain rfl := f3.2.2.2.1 rfl
        rw [if_neg (by simp [Region.wanted, yielded, e3])]
        exact hK.out _ _ hg ⟨fun h => absurd h (by decide), fun h => absurd h (by decide), fun h => absurd h (by decide), fun h => absurd h (by decide), fun h => absurd h (by decide), fun h => absurd h (by decide)⟩ (fun _ _ h => h)
      case s9 =>
        intro a w' hoff hg hdep K hK
        obtain ⟨v3, e3, f3⟩ := hdep 3 _ 46 (by kernel_rfl) rfl rfl
        obtain rfl := f3.2.2.2.1 rfl
        rw [if_neg (by simp [Region.wanted, yielded, e3])]
        exact hK.out _ _ hg ⟨fun h => absurd h (by decide), fun h => absurd h (by decide), fun h => absurd h (by decide), fun h => absurd h (by decide), fun h => absurd h (by decide), fun h => absurd h (by decide)⟩ (fun _ _ h => h)
      case s10 =>
        intro a w' hoff hg hdep K hK
        obtain ⟨v3, e3, f3⟩ := hdep 3 _ 46 (by kernel_rfl) rfl rfl
        obtain rfl := f3.2.2.2.1 rfl
        rw [if_neg (by simp [Region.wanted, yielded, e3])]
        exact hK.out _ _ hg ⟨fun h => absurd h (by decide), fun h => absurd h (by decide), fun h => absurd h (by decide), fun h => absurd h (by decide), fun h => absurd h (by decide), fun h => absurd h (by decide)⟩ (fun _ _ h => h)
      case s11 =>
        intro a w' hoff hg hdep K hK
        obtain ⟨v3, e3, f3⟩ := hdep 3 _ 46 (by kernel_rfl) rfl rfl
        obtain rfl := f3.2.2.2.1 rfl
        rw [if_neg (by simp [Region.wanted, yielded, e3])]
        exact hK.out _ _ hg ⟨fun h => absurd h (by decide), fun h => absurd h (by decide), fun h => absurd h (by decide), fun h => absurd h (by decide), fun h => absurd h (by decide), fun h => absurd h (by decide)⟩ (fun _ _ h => h)
      case s12 =>
        intro a w' hoff hg hdep K hK
        obtain ⟨v3, e3, f3⟩ := hdep 3 _ 46 (by kernel_rfl) rfl rfl
        obtain rfl := f3.2.2.2.1 rfl
        rw [if_pos (by rfl)]
        go_simp
        exact hK.out _ _ hg ⟨fun h => absurd h (by decide), fun h => absurd h (by decide), fun h => absurd h (by decide), fun h => absurd h (by decide), fun _ => rfl, fun h => absurd h (by decide)⟩ (fun _ _ h => h)
      case s13 =>
        intro a w' hoff hg hdep K hK
        obtain ⟨v12, e12, f12⟩ := hdep 12 _ 55 (by kernel_rfl) rfl rfl
        obtain rfl := f12.2.2.2.2.1 rfl
        rw [if_pos (by rfl)]
        go_simp
        exact hK.out _ _ hg ⟨fun h => absurd h (by decide), fun h => absurd h (by decide), fun h => absurd h (by decide), fun h => absurd h (by decide), fun h => absurd h (by decide), fun _ => rfl⟩ (fun _ _ h => h)
      case fin =>
        intro a w9 hoff hb hf
        obtain ⟨v0, e0, f0⟩ := hf 0 _ 43 rfl rfl
        obtain rfl := f0.1 rfl
        obtain ⟨v1, e1, f1⟩ := hf 1 _ 44 rfl rfl
        obtain rfl := f1.2.1 rfl
        obtain ⟨v2, e2, f2⟩ := hf 2 _ 45 rfl rfl
        obtain rfl := f2.2.2.1 rfl
        obtain ⟨v3, e3, f3⟩ := hf 3 _ 46 rfl rfl
        obtain rfl := f3.2.2.2.1 rfl
        obtain ⟨v4, e4, f4⟩ := hf 4 _ 47 rfl rfl
        obtain ⟨v5, e5, f5⟩ := hf 5 _ 48 rfl rfl
        obtain ⟨v6, e6, f6⟩ := hf 6 _ 49 rfl rfl
        obtain ⟨v7, e7, f7⟩ := hf 7 _ 50 rfl rfl
        obtain ⟨v8, e8, f8⟩ := hf 8 _ 51 rfl rfl
        obtain ⟨v9, e9, f9⟩ := hf 9 _ 52 rfl rfl
        obtain ⟨v10, e10, f10⟩ := hf 10 _ 53 rfl rfl
        obtain ⟨v11, e11, f11⟩ := hf 11 _ 54 rfl rfl
        obtain ⟨v12, e12, f12⟩ := hf 12 _ 55 rfl rfl
        obtain rfl := f12.2.2.2.2.1 rfl
        obtain ⟨v13, e13, f13⟩ := hf 13 _ 4 rfl rfl
        obtain rfl := f13.2.2.2.2.2 rfl
        rw [hoff.sets [(43, .pointer (some ⟨bt, 2, none⟩)), (44, .agg #[.int .i64 t.val.kind, .int .i64 t.val.num, .string t.val.text, .slice fa t.val.list.length fc]), (45, .bool false), (46, .bool false), (47, v4), (48, v5), (49, v6), (50, v7), (51, v8), (52, v9), (53, v10), (54, v11), (55, .bool false), (4, .bool false)] (by kernel_rfl) (by intro p hp; simp only [List.mem_cons, List.not_mem_nil, or_false] at hp; rcases hp with rfl | rfl | rfl | rfl | rfl | rfl | rfl | rfl | rfl | rfl | rfl | rfl | rfl | rfl <;> assumption)]
        clear hoff hf e0 f0 e1 f1 e2 f2 e3 f3 e4 f4 e5 f5 e6 f6 e7 f7 e8 f8 e9 f9 e10 f10 e11 f11 e12 f12 e13 f13
        simp only [List.foldl_cons, List.foldl_nil, List.setIfInBounds_toArray, List.set_cons_zero, List.set_cons_succ]
        go_wp2_with fail
        go_ret
        exact ⟨ret_bool HF.out.symm, Below.step B1.out hb⟩
    | true =>
      have HF : Hid (rightM (d + 1) t = pb) := by show _ = _; rw [HF2.out, h2]; rfl
      have HN := Lib.hid h2; clear h2 HF2
      go_enter Tryz.func96, Tryz.ntmps96
      go_wp2_with fail
      have x1 := boxM_new w (.int .i64 t.kind) (.string t.name) (.int .i64 t.val.kind) (.int .i64 t.val.num) (.string t.val.text) (.slice fa t.val.list.length fc) (.slice ga t.args.length gc)
      have b1 := below_alloc w (.cells #[.int .i64 t.kind, .string t.name, .int .i64 t.val.kind, .int .i64 t.val.num, .string t.val.text, .slice fa t.val.list.length fc, .slice ga t.args.length gc] 46)
      generalize w.alloc (.cells #[.int .i64 t.kind, .string t.name, .int .i64 t.val.kind, .int .i64 t.val.num, .string t.val.text, .slice fa t.val.list.length fc, .slice ga t.args.length gc] 46) = w1 at *
      have X1 := Lib.hid x1; have B1 := Lib.hid b1
      clear x1 b1
      obtain ⟨p0, p1, p2, p3, p4, p5, p6⟩ := X1.out.cells
      generalize w.heap.size = bt at X1 ⊢
      refine wp_region_factsG (by rfl) 73 (by rfl) (by kernel_rfl) (fun _ i v => (i = 0 → v = .pointer (some ⟨bt, 2, none⟩)) ∧ (i = 1 → v = .agg #[.int .i64 t.val.kind, .int .i64 t.val.num, .string t.val.text, .slice fa t.val.list.length fc]) ∧ (i = 2 → v = .bool true) ∧ (i = 3 → v = .bool true) ∧ (i = 4 → v = .pointer (some ⟨bt, 6, none⟩)) ∧ (i = 5 → v = .slice ga t.args.length gc) ∧ (i = 6 → v = .pointer (some ⟨bt, 1, none⟩)) ∧ (i = 7 → v = .string t.name) ∧ (i = 8 → v = .int .i64 ar) ∧ (i = 9 → v = .int .i64 ((d : Int) + 1)) ∧ (i = 10 → v = .int .i64 d) ∧ (i = 11 → v = .bool pb) ∧ (i = 12 → v = .bool pb) ∧ (i = 13 → v = .bool pb)) (fun w' => Below w1.heap.size w1 w') (Below.drew (Below.refl _ _)) ⟨?s0, ?s1, ?s2, ?s3, ?s4, ?s5, ?s6, ?s7, ?s8, ?s9, ?s10, ?s11, ?s12, ?s13, trivial⟩ ?fin
      case s0 =>
        intro a w' hoff hg hdep K hK
        rw [if_pos (by rfl)]
        have h2 := off_at hoff 2 (v := .pointer (some ⟨bt, 0, none⟩)) (by kernel_rfl) rfl
        go_simp
        exact hK.out _ _ hg ⟨fun _ => rfl, fun h => absurd h (by decide), fun h => absurd h (by decide), fun h => absurd h (by decide), fun h => absurd h (by decide), fun h => absurd h (by decide), fun h => absurd h (by decide), fun h => absurd h (by decide), fun h => absurd h (by decide), fun h => absurd h (by decide), fun h => absurd h (by decide), fun h => absurd h (by decide), fun h => absurd h (by decide), fun h => absurd h (by decide)⟩ (fun _ _ h => h)
      case s1 =>
        intro a w' hoff hg hdep K hK
        obtain ⟨v0, e0, f0⟩ := hdep 0 _ 43 (by kernel_rfl) rfl rfl
        obtain rfl := f0.1 rfl
        rw [if_pos (by rfl)]
        obtain ⟨q0, q1, q2, q3, q4, q5, q6⟩ := (X1.out.on hg).cells
        go_simp
        exact hK.out _ _ hg ⟨fun h => absurd h (by decide), fun _ => rfl, fun h => absurd h (by decide), fun h => absurd h (by decide), fun h => absurd h (by decide), fun h => absurd h (by decide), fun h => absurd h (by decide), fun h => absurd h (by decide), fun h => absurd h (by decide), fun h => absurd h (by decide), fun h => absurd h (by decide), fun h => absurd h (by decide), fun h => absurd h (by decide), fun h => absurd h (by decide)⟩ (fun _ _ h => h)
      case s2 =>
        intro a w' hoff hg hdep K hK
        obtain ⟨v1, e1, f1⟩ := hdep 1 _ 44 (by kernel_rfl) rfl rfl
        obtain rfl := f1.2.1 rfl
        rw [if_pos (by rfl)]
        go_simp
        refine (nothing_any t.val S _ _ _ _ _ (RepG.on (fun _ h => h) (fun k hk => (Below.step B1.out hg).block k (hS k hk)) t.val HV.out)).mono ?_
        rw [HN.out]
        rintro e w2 ⟨rfl, hb⟩
        exact hK.out _ _ (Below.step hg hb) ⟨fun h => absurd h (by decide), fun h => absurd h (by decide), fun _ => rfl, fun h => absurd h (by decide), fun h => absurd h (by decide), fun h => absurd h (by decide), fun h => absurd h (by decide), fun h => absurd h (by decide), fun h => absurd h (by decide), fun h => absurd h (by decide), fun h => absurd h (by decide), fun h => absurd h (by decide), fun h => absurd h (by decide), fun h => absurd h (by decide)⟩ (fun _ _ h => h)
      case s3 =>
        intro a w' hoff hg hdep K hK
        obtain ⟨v2, e2, f2⟩ := hdep 2 _ 45 (by kernel_rfl) rfl rfl
        obtain rfl := f2.2.2.1 rfl
        rw [if_pos (by rfl)]
        go_simp
        exact hK.out _ _ hg ⟨fun h => absurd h (by decide), fun h => absurd h (by decide), fun h => absurd h (by decide), fun _ => rfl, fun h => absurd h (by decide), fun h => absurd h (by decide), fun h => absurd h (by decide), fun h => absurd h (by decide), fun h => absurd h (by decide), fun h => absurd h (by decide), fun h => absurd h (by decide), fun h => absurd h (by decide), fun h => absurd h (by decide), fun h => absurd h (by decide)⟩ (fun _ _ h => h)
      case s4 =>
        intro a w' hoff hg hdep K hK
        obtain ⟨v3, e3, f3⟩ := hdep 3 _ 46 (by kernel_rfl) rfl rfl
        obtain rfl := f3.2.2.2.1 rfl
        rw [if_pos (by simp [Region.wanted, yielded, e3])]
        have h2 := off_at hoff 2 (v := .pointer (some ⟨bt, 0, none⟩)) (by kernel_rfl) rfl
        go_simp
        exact hK.out _ _ hg ⟨fun h => absurd h (by decide), fun h => absurd h (by decide), fun h => absurd h (by decide), fun h => absurd h (by decide), fun _ => rfl, fun h => absurd h (by decide), fun h => absurd h (by decide), fun h => absurd h (by decide), fun h => absurd h (by decide), fun h => absurd h (by decide), fun h => absurd h (by decide), fun h => absurd h (by decide), fun h => absurd h (by decide), fun h => absurd h (by decide)⟩ (fun _ _ h => h)
      case s5 =>
        intro a w' hoff hg hdep K hK
        obtain ⟨v3, e3, f3⟩ := hdep 3 _ 46 (by kernel_rfl) rfl rfl
        obtain rfl := f3.2.2.2.1 rfl
        obtain ⟨v4, e4, f4⟩ := hdep 4 _ 47 (by kernel_rfl) rfl rfl
        obtain rfl := f4.2.2.2.2.1 rfl
        rw [if_pos (by simp [Region.wanted, yielded, e3])]
        obtain ⟨q0, q1, q2, q3, q4, q5, q6⟩ := (X1.out.on hg).cells
        go_simp
        exact hK.out _ _ hg ⟨fun h => absurd h (by decide), fun h => absurd h (by decide), fun h => absurd h (by decide), fun h => absurd h (by decide), fun h => absurd h (by decide), fun _ => rfl, fun h => absurd h (by decide), fun h => absurd h (by decide), fun h => absurd h (by decide), fun h => absurd h (by decide), fun h => absurd h (by decide), fun h => absurd h (by decide), fun h => absurd h (by decide), fun h => absurd h (by decide)⟩ (fun _ _ h => h)
      case s6 =>
        intro a w' hoff hg hdep K hK
        obtain ⟨v3, e3, f3⟩ := hdep 3 _ 46 (by kernel_rfl) rfl rfl
        obtain rfl := f3.2.2.2.1 rfl
        rw [if_pos (by simp [Region.wanted, yielded, e3])]
        have h2 := off_at hoff 2 (v := .pointer (some ⟨bt, 0, none⟩)) (by kernel_rfl) rfl
        go_simp
        exact hK.out _ _ hg ⟨fun h => absurd h (by decide), fun h => absurd h (by decide), fun h => absurd h (by decide), fun h => absurd h (by decide), fun h => absurd h (by decide), fun h => absurd h (by decide), fun _ => rfl, fun h => absurd h (by decide), fun h => absurd h (by decide), fun h => absurd h (by decide), fun h => absurd h (by decide), fun h => absurd h (by decide), fun h => absurd h (by decide), fun h => absurd h (by decide)⟩ (fun _ _ h => h)
      case s7 =>
        intro a w' hoff hg hdep K hK
        obtain ⟨v3, e3, f3⟩ := hdep 3 _ 46 (by kernel_rfl) rfl rfl
        obtain rfl := f3.2.2.2.1 rfl
        obtain ⟨v6, e6, f6⟩ := hdep 6 _ 49 (by kernel_rfl) rfl rfl
        obtain rfl := f6.2.2.2.2.2.2.1 rfl
        rw [if_pos (by simp [Region.wanted, yielded, e3])]
        obtain ⟨q0, q1, q2, q3, q4, q5, q6⟩ := (X1.out.on hg).cells
        go_simp
        exact hK.out _ _ hg ⟨fun h => absurd h (by decide), fun h => absurd h (by decide), fun h => absurd h (by decide), fun h => absurd h (by decide), fun h => absurd h (by decide), fun h => absurd h (by decide), fun h => absurd h (by decide), fun _ => rfl, fun h => absurd h (by decide), fun h => absurd h (by decide), fun h => absurd h (by decide), fun h => absurd h (by decide), fun h => absurd h (by decide), fun h => absurd h (by decide)⟩ (fun _ _ h => h)
      case s8 =>
        intro a w' hoff hg hdep K hK
        obtain ⟨v3, e3, f3⟩ := hdep 3 _ 46 (by kernel_rfl) rfl rfl
        obtain rfl := f3.2.2.2.1 rfl
        obtain ⟨v7, e7, f7⟩ := hdep 7 _ 50 (by kernel_rfl) rfl rfl
        obtain rfl := f7.2.2.2.2.2.2.2.1 rfl
        rw [if_pos (by simp [Region.wanted, yielded, e3])]
        go_simp
        refine (arity_any t.name _).mono ?_
        rw [HAR.out]
        rintro e w2 ⟨rfl, hb⟩
        exact hK.out _ _ (Below.step hg hb) ⟨fun h => absurd h (by decide), fun h => absurd h (by decide), fun h => absurd h (by decide), fun h => absurd h (by decide), fun h => absurd h (by decide), fun h => absurd h (by decide), fun h => absurd h (by decide), fun h => absurd h (by decide), fun _ => rfl, fun h => absurd h (by decide), fun h => absurd h (by decide), fun h => absurd h (by decide), fun h => absurd h (by decide), fun h => absurd h (by decide)⟩ (fun _ _ h => h)
      case s9 =>
        intro a w' hoff hg hdep K hK
        obtain ⟨v3, e3, f3⟩ := hdep 3 _ 46 (by kernel_rfl) rfl rfl
        obtain rfl := f3.2.2.2.1 rfl
        rw [if_pos (by simp [Region.wanted, yielded, e3])]
        have h1 := off_at hoff 1 (v := .int .i64 ((d : Int) + 1)) (by kernel_rfl) rfl
        go_simp
        exact hK.out _ _ hg ⟨fun h => absurd h (by decide), fun h => absurd h (by decide), fun h => absurd h (by decide), fun h => absurd h (by decide), fun h => absurd h (by decide), fun h => absurd h (by decide), fun h => absurd h (by decide), fun h => absurd h (by decide), fun h => absurd h (by decide), fun _ => rfl, fun h => absurd h (by decide), fun h => absurd h (by decide), fun h => absurd h (by decide), fun h => absurd h (by decide)⟩ (fun _ _ h => h)
      case s10 =>
        intro a w' hoff hg hdep K hK
        obtain ⟨v3, e3, f3⟩ := hdep 3 _ 46 (by kernel_rfl) rfl rfl
        obtain rfl := f3.2.2.2.1 rfl
        obtain ⟨v9, e9, f9⟩ := hdep 9 _ 52 (by kernel_rfl) rfl rfl
        obtain rfl := f9.2.2.2.2.2.2.2.2.2.1 rfl
        rw [if_pos (by simp [Region.wanted, yielded, e3])]
        go_simp
        exact hK.out _ _ hg ⟨fun h => absurd h (by decide), fun h => absurd h (by decide), fun h => absurd h (by decide), fun h => absurd h (by decide), fun h => absurd h (by decide), fun h => absurd h (by decide), fun h => absurd h (by decide), fun h => absurd h (by decide), fun h => absurd h (by decide), fun h => absurd h (by decide), fun _ => rfl, fun h => absurd h (by decide), fun h => absurd h (by decide), fun h => absurd h (by decide)⟩ (fun _ _ h => h)
      case s11 =>
        intro a w' hoff hg hdep K hK
        obtain ⟨v3, e3, f3⟩ := hdep 3 _ 46 (by kernel_rfl) rfl rfl
        obtain rfl := f3.2.2.2.1 rfl
        obtain ⟨v5, e5, f5⟩ := hdep 5 _ 48 (by kernel_rfl) rfl rfl
        obtain rfl := f5.2.2.2.2.2.1 rfl
        obtain ⟨v8, e8, f8⟩ := hdep 8 _ 51 (by kernel_rfl) rfl rfl
        obtain rfl := f8.2.2.2.2.2.2.2.2.1 rfl
        obtain ⟨v10, e10, f10⟩ := hdep 10 _ 53 (by kernel_rfl) rfl rfl
        obtain rfl := f10.2.2.2.2.2.2.2.2.2.2.1 rfl
        rw [if_pos (by simp [Region.wanted, yielded, e3])]
        go_simp
        refine (parts_of d HH.out t.args ar S _ _ (fun k hk => Nat.lt_of_lt_of_le (hS k hk) (Below.step B1.out hg).size) (RepMs.on (fun _ h => h) (fun k hk => (Below.step B1.out hg).block k (hS k hk)) HL.out)).mono ?_
        rw [HPB.out]
        rintro e w2 ⟨rfl, hb⟩
        exact hK.out _ _ (Below.step hg hb) ⟨fun h => absurd h (by decide), fun h => absurd h (by decide), fun h => absurd h (by decide), fun h => absurd h (by decide), fun h => absurd h (by decide), fun h => absurd h (by decide), fun h => absurd h (by decide), fun h => absurd h (by decide), fun h => absurd h (by decide), fun h => absurd h (by decide), fun h => absurd h (by decide), fun _ => rfl, fun h => absurd h (by decide), fun h => absurd h (by decide)⟩ (fun _ _ h => h)
      case s12 =>
        intro a w' hoff hg hdep K hK
        obtain ⟨v3, e3, f3⟩ := hdep 3 _ 46 (by kernel_rfl) rfl rfl
        obtain rfl := f3.2.2.2.1 rfl
        obtain ⟨v11, e11, f11⟩ := hdep 11 _ 54 (by kernel_rfl) rfl rfl
        obtain rfl := f11.2.2.2.2.2.2.2.2.2.2.2.1 rfl
        rw [if_pos (by rfl)]
        go_simp
        exact hK.out _ _ hg ⟨fun h => absurd h (by decide), fun h => absurd h (by decide), fun h => absurd h (by decide), fun h => absurd h (by decide), fun h => absurd h (by decide), fun h => absurd h (by decide), fun h => absurd h (by decide), fun h => absurd h (by decide), fun h => absurd h (by decide), fun h => absurd h (by decide), fun h => absurd h (by decide), fun h => absurd h (by decide), fun _ => rfl, fun h => absurd h (by decide)⟩ (fun _ _ h => h)
      case s13 =>
        intro a w' hoff hg hdep K hK
        obtain ⟨v12, e12, f12⟩ := hdep 12 _ 55 (by kernel_rfl) rfl rfl
        obtain rfl := f12.2.2.2.2.2.2.2.2.2.2.2.2.1 rfl
        rw [if_pos (by rfl)]
        go_simp
        exact hK.out _ _ hg ⟨fun h => absurd h (by decide), fun h => absurd h (by decide), fun h => absurd h (by decide), fun h => absurd h (by decide), fun h => absurd h (by decide), fun h => absurd h (by decide), fun h => absurd h (by decide), fun h => absurd h (by decide), fun h => absurd h (by decide), fun h => absurd h (by decide), fun h => absurd h (by decide), fun h => absurd h (by decide), fun h => absurd h (by decide), fun _ => rfl⟩ (fun _ _ h => h)
      case fin =>
        intro a w9 hoff hb hf
        obtain ⟨v0, e0, f0⟩ := hf 0 _ 43 rfl rfl
        obtain rfl := f0.1 rfl
        obtain ⟨v1, e1, f1⟩ := hf 1 _ 44 rfl rfl
        obtain rfl := f1.2.1 rfl
        obtain ⟨v2, e2, f2⟩ := hf 2 _ 45 rfl rfl
        obtain rfl := f2.2.2.1 rfl
        obtain ⟨v3, e3, f3⟩ := hf 3 _ 46 rfl rfl
        obtain rfl := f3.2.2.2.1 rfl
        obtain ⟨v4, e4, f4⟩ := hf 4 _ 47 rfl rfl
        obtain rfl := f4.2.2.2.2.1 rfl
        obtain ⟨v5, e5, f5⟩ := hf 5 _ 48 rfl rfl
        obtain rfl := f5.2.2.2.2.2.1 rfl
        obtain ⟨v6, e6, f6⟩ := hf 6 _ 49 rfl rfl
        obtain rfl := f6.2.2.2.2.2.2.1 rfl
        obtain ⟨v7, e7, f7⟩ := hf 7 _ 50 rfl rfl
        obtain rfl := f7.2.2.2.2.2.2.2.1 rfl
        obtain ⟨v8, e8, f8⟩ := hf 8 _ 51 rfl rfl
        obtain rfl := f8.2.2.2.2.2.2.2.2.1 rfl
        obtain ⟨v9, e9, f9⟩ := hf 9 _ 52 rfl rfl
        obtain rfl := f9.2.2.2.2.2.2.2.2.2.1 rfl
        obtain ⟨v10, e10, f10⟩ := hf 10 _ 53 rfl rfl
        obtain rfl := f10.2.2.2.2.2.2.2.2.2.2.1 rfl
        obtain ⟨v11, e11, f11⟩ := hf 11 _ 54 rfl rfl
        obtain rfl := f11.2.2.2.2.2.2.2.2.2.2.2.1 rfl
        obtain ⟨v12, e12, f12⟩ := hf 12 _ 55 rfl rfl
        obtain rfl := f12.2.2.2.2.2.2.2.2.2.2.2.2.1 rfl
        obtain ⟨v13, e13, f13⟩ := hf 13 _ 4 rfl rfl
        obtain rfl := f13.2.2.2.2.2.2.2.2.2.2.2.2.2 rfl
        rw [hoff.sets [(43, .pointer (some ⟨bt, 2, none⟩)), (44, .agg #[.int .i64 t.val.kind, .int .i64 t.val.num, .string t.val.text, .slice fa t.val.list.length fc]), (45, .bool true), (46, .bool true), (47, .pointer (some ⟨bt, 6, none⟩)), (48, .slice ga t.args.length gc), (49, .pointer (some ⟨bt, 1, none⟩)), (50, .string t.name), (51, .int .i64 ar), (52, .int .i64 ((d : Int) + 1)), (53, .int .i64 d), (54, .bool pb), (55, .bool pb), (4, .bool pb)] (by kernel_rfl) (by intro p hp; simp only [List.mem_cons, List.not_mem_nil, or_false] at hp; rcases hp with rfl | rfl | rfl | rfl | rfl | rfl | rfl | rfl | rfl | rfl | rfl | rfl | rfl | rfl <;> assumption)]
        clear hoff hf e0 f0 e1 f1 e2 f2 e3 f3 e4 f4 e5 f5 e6 f6 e7 f7 e8 f8 e9 f9 e10 f10 e11 f11 e12 f12 e13 f13
        simp only [List.foldl_cons, List.foldl_nil, List.setIfInBounds_toArray, List.set_cons_zero, List.set_cons_succ]
        go_wp2_with fail
        go_ret
        exact ⟨ret_bool HF.out.symm, Below.step B1.out hb⟩
  have k3 : (t.kind == 3) = false := by simp [e3]
  by_cases e4 : t.kind = 4
  · have HF1 : Hid (rightM (d + 1) t = (opB t.name && (noneB t.val && listB 2 2 (rightM d) t.args))) := by show _ = _; rw [HF0.out, if_neg e1, if_neg e2, if_neg e3, if_pos e4]
    have k4 : (t.kind == 4) = true := by simp [e4]
    clear HF0 e1 e2 e3 e4 hie
    cases h1 : opB t.name with
    | false =>
      have HF : Hid (rightM (d + 1) t = false) := by show _ = _; rw [HF1.out, h1, Bool.false_and]
      have H1 := Lib.hid h1; clear h1 HF1
      go_enter Tryz.func96, Tryz.ntmps96
      go_wp2_with fail
      have x1 := boxM_new w (.int .i64 t.kind) (.string t.name) (.int .i64 t.val.kind) (.int .i64 t.val.num) (.string t.val.text) (.slice fa t.val.list.length fc) (.slice ga t.args.length gc)
      have b1 := below_alloc w (.cells #[.int .i64 t.kind, .string t.name, .int .i64 t.val.kind, .int .i64 t.val.num, .string t.val.text, .slice fa t.val.list.length fc, .slice ga t.args.length gc] 46)
      generalize w.alloc (.cells #[.int .i64 t.kind, .string t.name, .int .i64 t.val.kind, .int .i64 t.val.num, .string t.val.text, .slice fa t.val.list.length fc, .slice ga t.args.length gc] 46) = w1 at *
      have X1 := Lib.hid x1; have B1 := Lib.hid b1
      clear x1 b1
      obtain ⟨p0, p1, p2, p3, p4, p5, p6⟩ := X1.out.cells
      refine (reckoning_any t.name _).mono ?_
      rw [H1.out]
      rintro e w2 ⟨rfl, rfl⟩
      go_wp2_with fail
      go_ret
      exact ⟨ret_bool HF.out.symm, B1.out⟩
    | true =>
    cases h2 : noneB t.val with
    | false =>
      have HF : Hid (rightM (d + 1) t = false) := by show _ = _; rw [HF1.out, h1, h2]; rfl
      have H1 := Lib.hid h1; have HN := Lib.hid h2; clear h1 h2 HF1
      go_enter Tryz.func96, Tryz.ntmps96
      go_wp2_with fail
      have x1 := boxM_new w (.int .i64 t.kind) (.string t.name) (.int .i64 t.val.kind) (.int .i64 t.val.num) (.string t.val.text) (.slice fa t.val.list.length fc) (.slice ga t.args.length gc)
      have b1 := below_alloc w (.cells #[.int .i64 t.kind, .string t.name, .int .i64 t.val.kind, .int .i64 t.val.num, .string t.val.text, .slice fa t.val.list.length fc, .slice ga t.args.length gc] 46)
      generalize w.alloc (.cells #[.int .i64 t.kind, .string t.name, .int .i64 t.val.kind, .int .i64 t.val.num, .string t.val.text, .slice fa t.val.list.length fc, .slice ga t.args.length gc] 46) = w1 at *
      have X1 := Lib.hid x1; have B1 := Lib.hid b1
      clear x1 b1
      obtain ⟨p0, p1, p2, p3, p4, p5, p6⟩ := X1.out.cells
      refine (reckoning_any t.name _).mono ?_
      rw [H1.out]
      rintro e w2 ⟨rfl, rfl⟩
      go_wp2_with fail
      refine (nothing_any t.val S w1 _ _ _ _ (RepG.on (fun _ h => h) (fun k hk => B1.out.block k (hS k hk)) t.val HV.out)).mono ?_
      rw [HN.out]
      rintro e w2 ⟨rfl, hb⟩
      have X2 := Lib.hid (X1.out.on hb); have B2 := Lib.hid (Below.step B1.out hb)
      clear hb p0 p1 p2 p3 p4 p5 p6
      obtain ⟨p0, p1, p2, p3, p4, p5, p6⟩ := X2.out.cells
      go_wp2_with fail
      go_ret
      exact ⟨ret_bool HF.out.symm, B2.out⟩
    | true =>
      have HF : Hid (rightM (d + 1) t = listB 2 2 (rightM d) t.args) := by show _ = _; rw [HF1.out, h1, h2]; rfl
      have H1 := Lib.hid h1; have HN := Lib.hid h2; clear h1 h2 HF1
      go_enter Tryz.func96, Tryz.ntmps96
      go_wp2_with fail
      have x1 := boxM_new w (.int .i64 t.kind) (.string t.name) (.int .i64 t.val.kind) (.int .i64 t.val.num) (.string t.val.text) (.slice fa t.val.list.length fc) (.slice ga t.args.length gc)
      have b1 := below_alloc w (.cells #[.int .i64 t.kind, .string t.name, .int .i64 t.val.kind, .int .i64 t.val.num, .string t.val.text, .slice fa t.val.list.length fc, .slice ga t.args.length gc] 46)
      generalize w.alloc (.cells #[.int .i64 t.kind, .string t.name, .int .i64 t.val.kind, .int .i64 t.val.num, .string t.val.text, .slice fa t.val.list.length fc, .slice ga t.args.length gc] 46) = w1 at *
      have X1 := Lib.hid x1; have B1 := Lib.hid b1
      clear x1 b1
      obtain ⟨p0, p1, p2, p3, p4, p5, p6⟩ := X1.out.cells
      refine (reckoning_any t.name _).mono ?_
      rw [H1.out]
      rintro e w2 ⟨rfl, rfl⟩
      go_wp2_with fail
      refine (nothing_any t.val S w1 _ _ _ _ (RepG.on (fun _ h => h) (fun k hk => B1.out.block k (hS k hk)) t.val HV.out)).mono ?_
      rw [HN.out]
      rintro e w2 ⟨rfl, hb⟩
      have X2 := Lib.hid (X1.out.on hb); have B2 := Lib.hid (Below.step B1.out hb)
      clear hb p0 p1 p2 p3 p4 p5 p6
      obtain ⟨p0, p1, p2, p3, p4, p5, p6⟩ := X2.out.cells
      go_wp2_with fail
      refine (parts_of d HH.out t.args 2 S _ _ (fun k hk => Nat.lt_of_lt_of_le (hS k hk) B2.out.size) (RepMs.on (fun _ h => h) (fun k hk => B2.out.block k (hS k hk)) HL.out)).mono ?_
      rintro e w3 ⟨rfl, hb⟩
      have B3 := Lib.hid (Below.step B2.out hb)
      clear hb
      go_wp2_with fail
      go_ret
      exact ⟨ret_bool HF.out.symm, B3.out⟩
  have k4 : (t.kind == 4) = false := by simp [e4]
  have HF : Hid (rightM (d + 1) t = false) := by show _ = _; rw [HF0.out, if_neg e1, if_neg e2, if_neg e3, if_neg e4]
  clear HF0 e1 e2 e3 e4 hie
  go_enter Tryz.func96, Tryz.ntmps96
  go_wp2_with fail
  have x1 := boxM_new w (.int .i64 t.kind) (.string t.name) (.int .i64 t.val.kind) (.int .i64 t.val.num) (.string t.val.text) (.slice fa t.val.list.length fc) (.slice ga t.args.length gc)
  have b1 := below_alloc w (.cells #[.int .i64 t.kind, .string t.name, .int .i64 t.val.kind, .int .i64 t.val.num, .string t.val.text, .slice fa t.val.list.length fc, .slice ga t.args.length gc] 46)
  generalize w.alloc (.cells #[.int .i64 t.kind, .string t.name, .int .i64 t.val.kind, .int .i64 t.val.num, .string t.val.text, .slice fa t.val.list.length fc, .slice ga t.args.length gc] 46) = w1 at *
  have X1 := Lib.hid x1; have B1 := Lib.hid b1
  clear x1 b1
  obtain ⟨p0, p1, p2, p3, p4, p5, p6⟩ := X1.out.cells
  go_ret
  exact ⟨ret_bool HF.out.symm, B1.out⟩

theorem within_any : ∀ d : Nat, d ≤ 100 → RightTmAt d
  | 0, _ => within_zero
  | d + 1, hd => within_succ d (by omega) (within_any d (by omega))

end Go.Proofs.YtgjemmdhamkngaaGreatDoor
