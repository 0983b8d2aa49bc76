/-
  The law's own 'Fit'.
-/
import Derived.Test.YtgjemmdhamkngaaGreatDoorJ08
import Derived.Orders
import Derived.Deep.RegionHeld
import Derived.WalkKit
namespace Go.Proofs.YtgjemmdhamkngaaGreatDoor
open Go.RowKit

/-- 'Fit' of any value. -/
theorem Fit_any (x : V) (B : Nat) (w : World) (c0 c1 c2 c3 : Value) (hB : B ≤ w.heap.size) (hx : RepV B w x c0 c1 c2 c3) :
    Calls Tryz.prog 58 #[.agg #[c0, c1, c2, c3]] w (FitPost (fitV 4 x) w) := by
  obtain ⟨fa, fc, rfl, rfl, rfl, rfl⟩ := hx.form
  have HX := Lib.hid hx; clear hx
  go_enter Tryz.func58, Tryz.ntmps58
  go_wp2_with fail
  have b1 := stands_alloc w (.cells #[.int .i64 x.kind, .int .i64 x.num, .string x.text, .slice fa x.list.length fc] 44)
  have s1 := World.size_alloc w (.cells #[.int .i64 x.kind, .int .i64 x.num, .string x.text, .slice fa x.list.length fc] 44)
  generalize w.alloc (.cells #[.int .i64 x.kind, .int .i64 x.num, .string x.text, .slice fa x.list.length fc] 44) = w1 at *
  have r2 := boxed_new w1 (.int .i64 0) (.int .i64 0) (.string ⟨#[]⟩) (.slice none 0 0)
  have b2 := stands_alloc w1 (.cells #[.int .i64 0, .int .i64 0, .string ⟨#[]⟩, .slice none 0 0] 44)
  have s2 := World.size_alloc w1 (.cells #[.int .i64 0, .int .i64 0, .string ⟨#[]⟩, .slice none 0 0] 44)
  generalize w1.alloc (.cells #[.int .i64 0, .int .i64 0, .string ⟨#[]⟩, .slice none 0 0] 44) = w2 at *
  rw [s1] at r2
  have B2 := Below.step b1 b2
  refine (fit_any 4 (by omega) x B _ _ _ _ _ (by omega) (RepV.on B2 hB HX.out) (fun h => by omega)).mono ?_
  rintro e w3 ⟨c0, c1, c2, c3, rfl, hrep, hb⟩
  have RR := r2.on hb
  have HR := Lib.hid hrep
  have HB := Lib.hid (stored_below (k := w.heap.size + 1) (by omega) (Below.step B2 hb) c0 c1 c2 c3)
  obtain ⟨fa', fc', rfl, rfl, rfl, rfl⟩ := hrep.form
  generalize fitV 4 x = y at *
  clear r2 b1 b2 B2 hb hrep
  obtain ⟨r0, r1, r2, r3⟩ := RR.cells
  have z0 := frozen_of_row w3 _ 0 _ _ RR
  have z1 := frozen_of_row w3 _ 1 _ _ RR
  have z2 := frozen_of_row w3 _ 2 _ _ RR
  have z3 := frozen_of_row w3 _ 3 _ _ RR
  clear RR
  go_wp2_with fail
  refine bodyPost_ret (v := .agg #[.int .i64 y.kind, .int .i64 y.num, .string y.text, .slice fa' y.list.length fc']) (by simp [results, Tryz.results58, go_sem, r0, r1, r2, r3]) rfl ?_
  refine ⟨_, _, _, _, rfl, HR.out.on (fun b hb => ⟨by omega, by simp [World.setCell]; exact hb.2⟩) (fun b hb => ?_), HB.out⟩
  rw [Below.heap_setCell _ _ _ _ (by simp; omega), Below.heap_setCell _ _ _ _ (by simp; omega), Below.heap_setCell _ _ _ _ (by simp; omega), Below.heap_setCell _ _ _ _ (by simp; omega)]

end Go.Proofs.YtgjemmdhamkngaaGreatDoor

/-
  A region that draws its order, by facts that stand: each operation, whenever it comes up, makes its own fact and leaves the others' as they are.
-/
namespace Go.Proofs.YtgjemmdhamkngaaGreatDoor
open Go

/-- Two numbers that are not the same. -/
theorem nn {i j : Nat} {q : Prop} (h : Nat.beq i j = false := by rfl) : i = j → q := fun e => by
  rw [e, Nat.beq_refl] at h; cases h
theorem countP_lt {p q : Nat → Bool} {i : Nat} (hpq : ∀ j, q j = true → p j = true) (hp : p i = true) (hq : q i = false) : ∀ l : List Nat, i ∈ l → l.countP q < l.countP p
  | [], hi => by cases hi
  | x :: l, hi => by
    rw [List.countP_cons, List.countP_cons]
    have hle : l.countP q ≤ l.countP p := List.countP_mono_left (fun j _ => hpq j)
    by_cases e : x = i
    · subst e; rw [hp, hq]; simp; omega
    · have hm : i ∈ l := by
        rcases List.mem_cons.1 hi with h | h
        · exact absurd h.symm e
        · exact h
      have := countP_lt hpq hp hq l hm
      have h2 : (if q x = true then 1 else 0) ≤ (if p x = true then 1 else 0) := by
        by_cases h : q x = true
        · rw [if_pos h, if_pos (hpq x h)]; exact Nat.le_refl _
        · rw [if_neg h]; omega
      omega

section
variable {P : Program} {ops : Array Oper} {Q : Exit → Act → World → Prop} {md : Region.Mode}

theorem getD_lt {listed : Array Bool} {i : Nat} (h : listed.getD i true = false) : i < listed.size := by
  rcases Nat.lt_or_ge i listed.size with h' | h'
  · exact h'
  · simp [Array.getElem?_eq_none h'] at h

theorem wpAny_inv (J : Array Bool → Act → World → Prop)
    (hstep : ∀ listed a w i, J listed a w → i ∈ Region.ready md ops listed → wpOp P ops Q i (fun a' w' => J (listed.setIfInBounds i true) a' w') a w)
    (hend : ∀ listed a w, J listed a w → Region.ready md ops listed = [] → Q .normal a w) :
    ∀ (fuel : Nat) (listed : Array Bool) (a : Act) (w : World), (List.range ops.size).countP (fun j => !listed.getD j true) ≤ fuel → J listed a w → wpAny P md ops Q fuel listed a w
  | 0, listed, a, w, hc, hJ => by
    have hr : Region.ready md ops listed = [] := by
      apply List.eq_nil_iff_forall_not_mem.2
      intro i hi
      obtain ⟨h1, o, ho, -⟩ := mem_ready.1 hi
      have : 0 < (List.range ops.size).countP (fun j => !listed.getD j true) := List.countP_pos_iff.2 ⟨i, List.mem_range.2 (Array.getElem?_eq_some_iff.1 ho).1, by rw [h1]; rfl⟩
      omega
    exact ⟨hr, hend _ _ _ hJ hr⟩
  | fuel + 1, listed, a, w, hc, hJ => by
    refine ⟨hend _ _ _ hJ, fun i hi => wpOp_mono (fun a' w' h => wpAny_inv J hstep hend fuel _ a' w' ?_ h) (hstep _ _ _ _ hJ hi)⟩
    obtain ⟨h1, o, ho, -⟩ := mem_ready.1 hi
    have hin := getD_lt h1
    have := countP_lt (p := fun j => !listed.getD j true) (q := fun j => !(listed.setIfInBounds i true).getD j true) (i := i) (fun j hj => by
        by_cases e : i = j
        · subst e; simp [h1]
        · rw [getD_set_ne true e] at hj; exact hj) (by simp [h1]) (by simp [hin]) _ (List.mem_range.2 (Array.getElem?_eq_some_iff.1 ho).1)
    omega

theorem none_listed (m j : Nat) : (Array.replicate m false).getD j false = false := by
  rcases Nat.lt_or_ge j m with h | h
  · simp [h]
  · simp [h]
/-- a differs from b at the operations' results alone. -/
structure Off (ops : Array Oper) (b a : Act) : Prop where
  same : a.defers = b.defers
  size : a.tmps.size = b.tmps.size
  off : ∀ k, (∀ (i : Nat) (o : Oper), ops[i]? = some o → o.dst ≠ some k) → a.tmps[k]? = b.tmps[k]?
theorem Off.refl (ops : Array Oper) (a : Act) : Off ops a a := ⟨rfl, rfl, fun _ _ => rfl⟩
theorem Off.put {b a : Act} (h : Off ops b a) {i : Nat} {o : Oper} {d : Tmp} (ho : ops[i]? = some o) (hd : o.dst = some d) (v : Value) : Off ops b (a.put (some d) v) :=
  ⟨h.same, by show (a.tmps.setIfInBounds d v).size = _; rw [Array.size_setIfInBounds]; exact h.size, fun k hk => by
    have hne : d ≠ k := fun e => hk i o ho (by rw [hd, e])
    show (a.tmps.setIfInBounds d v)[k]? = _
    rw [Array.getElem?_setIfInBounds, if_neg hne]
    exact h.off k hk⟩

/-- No operation waits for another one's guard, each has a result of its own, and each waits for earlier ones alone. -/
def okOps (ops : Array Oper) (n : Nat) : Bool :=
  (List.range ops.size).all fun i => match ops[i]? with
    | none => true
    | some o => o.guard.isNone && (match o.dst with | some d => decide (d < n) | none => false) && o.after.all (fun e => decide (e.on < i)) &&
      (List.range ops.size).all fun j => j == i || (match ops[j]? with | some o' => !(o'.dst == o.dst) | none => true)
theorem okOps.at {n i : Nat} {o : Oper} (h : okOps ops n = true) (ho : ops[i]? = some o) : o.guard = none ∧ (∃ d, o.dst = some d ∧ d < n) ∧ (∀ e ∈ o.after, e.on < i) ∧ ∀ j o', ops[j]? = some o' → j ≠ i → o'.dst ≠ o.dst := by
  unfold okOps at h
  rw [List.all_eq_true] at h
  have h1 := h i (List.mem_range.2 (Array.getElem?_eq_some_iff.1 ho).1)
  rw [ho] at h1
  simp only [Bool.and_eq_true] at h1
  obtain ⟨⟨⟨g1, g2⟩, g3⟩, g4⟩ := h1
  refine ⟨Option.isNone_iff_eq_none.1 g1, ?_, ?_, ?_⟩
  · split at g2
    · rename_i d hd; exact ⟨d, hd, of_decide_eq_true g2⟩
    · cases g2
  · intro e he
    exact of_decide_eq_true (Array.all_eq_true_iff_forall_mem.1 g3 e he)
  · intro j o' hj hne he
    rw [List.all_eq_true] at g4
    have h2 := g4 j (List.mem_range.2 (Array.getElem?_eq_some_iff.1 hj).1)
    rw [hj] at h2
    simp [hne, he] at h2

/-- What is asked of one operation. -/
def StepOf (P : Program) (md : Region.Mode) (ops : Array Oper) (A : Act) (F : World → Nat → Value → Prop) (G : World → Prop) (Q : Exit → Act → World → Prop) (i : Nat) (o : Oper) : Prop :=
  ∀ (a : Act) (w : World), Off ops A a → G w →
    (∀ (j : Nat) (o' : Oper) (d : Tmp), (o.after.any fun e => Region.binds md e && e.on == j) = true → ops[j]? = some o' → o'.dst = some d → ∃ v, a.tmps[d]? = some v ∧ F w j v) →
    ∀ K : Act → World → Prop, Shut (∀ v w', G w' → F w' i v → (∀ j u, F w j u → F w' j u) → K (a.put o.dst v) w') → Oper.wp P o a w K Q
def Steps (P : Program) (md : Region.Mode) (ops : Array Oper) (A : Act) (F : World → Nat → Value → Prop) (G : World → Prop) (Q : Exit → Act → World → Prop) : Nat → List Oper → Prop
  | _, [] => True
  | i, o :: os => StepOf P md ops A F G Q i o ∧ Steps P md ops A F G Q (i + 1) os
theorem Steps.at {A : Act} {F : World → Nat → Value → Prop} {G : World → Prop} : ∀ (os : List Oper) (k i : Nat) (o : Oper), Steps P md ops A F G Q k os → os[i]? = some o → StepOf P md ops A F G Q (k + i) o
  | [], _, _, _, _, h => by simp at h
  | x :: os, k, 0, o, hs, h => by simp at h; subst h; exact hs.1
  | x :: os, k, i + 1, o, hs, h => by
    have := Steps.at os (k + 1) i o hs.2 (by simpa using h)
    rw [show k + (i + 1) = k + 1 + i by omega]; exact this

theorem wp_region_facts {id : Nat} {A : Act} {w : World} (hm : P.follows .mixedOrders = true) (n : Nat) (hn : A.tmps.size = n) (hok : okOps ops n = true) (F : World → Nat → Value → Prop) (G : World → Prop) (hG : G w.drew)
    (hsteps : Steps P .any ops A F G Q 0 ops.toList)
    (hend : ∀ a w, Off ops A a → G w → (∀ (i : Nat) (o : Oper) (d : Tmp), ops[i]? = some o → o.dst = some d → ∃ v, a.tmps[d]? = some v ∧ F w i v) → Q .normal a w) :
    (Code.region id ops true).wp P Q A w := by
  refine wp_region_any hm (wpAny_inv (J := fun listed a w => listed.size = ops.size ∧ Off ops A a ∧ G w ∧ ∀ (i : Nat) (o : Oper) (d : Tmp), ops[i]? = some o → o.dst = some d → listed.getD i false = true → ∃ v, a.tmps[d]? = some v ∧ F w i v) ?_ ?_ _ _ _ _ ?_ ?_)
  · rintro listed a w i ⟨hsz, hoff, hg, hf⟩ hi
    obtain ⟨h1, o, ho, hall⟩ := mem_ready.1 hi
    obtain ⟨k1, ⟨d, k2, k3⟩, -, k4⟩ := okOps.at hok ho
    have hin := getD_lt h1
    have hst := Steps.at ops.toList 0 i o hsteps (by simpa using ho)
    rw [Nat.zero_add] at hst
    unfold wpOp
    rw [ho]
    simp only
    rw [if_pos (by unfold Region.wanted; rw [k1])]
    refine .inl (hst a w hoff hg (fun j o' d' hj ho' hd' => ?_) _ fun v w' hg' hf' hstay => ?_)
    · obtain ⟨e, he, hb⟩ := Array.any_eq_true'.1 hj
      simp only [Bool.and_eq_true, beq_iff_eq] at hb
      exact hf j o' d' ho' hd' (by rw [← hb.2]; exact hall e he hb.1)
    · rw [k2]
      refine ⟨by rw [Array.size_setIfInBounds]; exact hsz, hoff.put ho k2 v, hg', fun j o' d' ho' hd' hl => ?_⟩
      by_cases e : j = i
      · subst e
        obtain rfl : o' = o := Option.some.inj (ho'.symm.trans ho)
        obtain rfl : d' = d := Option.some.inj (hd'.symm.trans k2)
        refine ⟨v, ?_, hf'⟩
        show (a.tmps.setIfInBounds d' v)[d']? = _
        rw [Array.getElem?_setIfInBounds, if_pos rfl, if_pos (by rw [hoff.size, hn]; exact k3)]
      · rw [getD_set_ne false (fun h => e h.symm)] at hl
        obtain ⟨u, hu, hF⟩ := hf j o' d' ho' hd' hl
        refine ⟨u, ?_, hstay j u hF⟩
        have hne : d ≠ d' := fun h => k4 j o' ho' e (by rw [hd', k2, h])
        show (a.tmps.setIfInBounds d v)[d']? = _
        rw [Array.getElem?_setIfInBounds, if_neg hne]; exact hu
  · rintro listed a w ⟨hsz, hoff, hg, hf⟩ hr
    refine hend a w hoff hg fun i o d ho hd => hf i o d ho hd ?_
    have all : ∀ i, i < ops.size → listed.getD i false = true := by
      intro i
      induction i using Nat.strongRecOn with
      | _ i ih =>
        intro hi
        cases hl : listed.getD i true with
        | true => simpa [hsz, hi] using hl
        | false =>
          have ho : ops[i]? = some ops[i] := Array.getElem?_eq_getElem hi
          have : i ∈ Region.ready .any ops listed := mem_ready.2 ⟨hl, ops[i], ho, fun e he _ => ih e.on ((okOps.at hok ho).2.2.1 e he) (Nat.lt_trans ((okOps.at hok ho).2.2.1 e he) hi)⟩
          rw [hr] at this; cases this
    exact all i (Array.getElem?_eq_some_iff.1 ho).1
  · exact Nat.le_trans List.countP_le_length (by simp)
  · exact ⟨by simp, Off.refl _ _, hG, fun i o d _ _ hl => by rw [none_listed] at hl; cases hl⟩

/-- The state behind the region, written out. -/
theorem sets_eq : ∀ (dvs : List (Nat × Value)) (x b : Array Value), x.size = b.size → (∀ k, k ∉ dvs.map (·.1) → x[k]? = b[k]?) → (∀ p ∈ dvs, x[p.1]? = some p.2) → x = dvs.foldl (fun y p => y.setIfInBounds p.1 p.2) b
  | [], x, b, _, h, _ => by
    apply Array.ext_getElem?
    intro k; exact h k (by simp)
  | p :: dvs, x, b, hs, h, hv => by
    rw [List.foldl_cons]
    refine sets_eq dvs x _ (by rw [Array.size_setIfInBounds]; exact hs) (fun k hk => ?_) (fun q hq => hv q (List.mem_cons_of_mem _ hq))
    rw [Array.getElem?_setIfInBounds]
    by_cases e : p.1 = k
    · subst e
      have h1 := hv p (by simp)
      rw [if_pos rfl, if_pos (by rw [← hs]; exact (Array.getElem?_eq_some_iff.1 h1).1)]
      exact h1
    · rw [if_neg e]
      exact h k (by simp only [List.map_cons, List.mem_cons, not_or]; exact ⟨fun h => e h.symm, hk⟩)
theorem Off.sets {b a : Act} (h : Off ops b a) (dvs : List (Nat × Value)) (hd : (ops.toList.all fun o => match o.dst with | some d => (dvs.map (·.1)).contains d | none => true) = true) (hv : ∀ p ∈ dvs, a.tmps[p.1]? = some p.2) :
    a = { b with tmps := dvs.foldl (fun y p => y.setIfInBounds p.1 p.2) b.tmps } := by
  cases a with
  | mk t ds =>
    have e1 : ds = b.defers := h.same
    subst e1
    congr 1
    refine sets_eq dvs t b.tmps h.size (fun k hk => h.off k fun i o ho hdk => hk ?_) hv
    rw [List.all_eq_true] at hd
    have := hd o (by rw [Array.mem_toList_iff]; exact Array.mem_of_getElem? ho)
    rw [hdk] at this
    simpa using this
end
end Go.Proofs.YtgjemmdhamkngaaGreatDoor

/-
  A region that draws its order, some of its operations guarded: by facts that stand.
-/
namespace Go.Proofs.YtgjemmdhamkngaaGreatDoor
open Go

section
variable {P : Program} {ops : Array Oper} {Q : Exit → Act → World → Prop} {md : Region.Mode}

/-- Each operation has a result of its own, and waits for earlier ones alone. -/
def okOpsG (ops : Array Oper) (n : Nat) : Bool :=
  (List.range ops.size).all fun i => match ops[i]? with
    | none => true
    | some o => (match o.dst with | some d => decide (d < n) | none => false) && o.after.all (fun e => decide (e.on < i)) &&
      (List.range ops.size).all fun j => j == i || (match ops[j]? with | some o' => !(o'.dst == o.dst) | none => true)
theorem okOpsG.at {n i : Nat} {o : Oper} (h : okOpsG ops n = true) (ho : ops[i]? = some o) : (∃ d, o.dst = some d ∧ d < n) ∧ (∀ e ∈ o.after, e.on < i) ∧ ∀ j o', ops[j]? = some o' → j ≠ i → o'.dst ≠ o.dst := by
  unfold okOpsG at h
  rw [List.all_eq_true] at h
  have h1 := h i (List.mem_range.2 (Array.getElem?_eq_some_iff.1 ho).1)
  rw [ho] at h1
  simp only [Bool.and_eq_true] at h1
  obtain ⟨⟨g2, g3⟩, g4⟩ := h1
  refine ⟨?_, ?_, ?_⟩
  · split at g2
    · rename_i d hd; exact ⟨d, hd, of_decide_eq_true g2⟩
    · cases g2
  · intro e he
    exact of_decide_eq_true (Array.all_eq_true_iff_forall_mem.1 g3 e he)
  · intro j o' hj hne he
    rw [List.all_eq_true] at g4
    have h2 := g4 j (List.mem_range.2 (Array.getElem?_eq_some_iff.1 hj).1)
    rw [hj] at h2
    simp [hne, he] at h2

/-- What is asked of one operation. -/
def StepG (P : Program) (md : Region.Mode) (ops : Array Oper) (A : Act) (F : World → Nat → Value → Prop) (G : World → Prop) (Q : Exit → Act → World → Prop) (i : Nat) (o : Oper) : Prop :=
  ∀ (a : Act) (w : World), Off ops A a → G w →
    (∀ (j : Nat) (o' : Oper) (d : Tmp), (o.after.any fun e => Region.binds md e && e.on == j) = true → ops[j]? = some o' → o'.dst = some d → ∃ v, a.tmps[d]? = some v ∧ F w j v) →
    ∀ K : Act → World → Prop, Shut (∀ v w', G w' → F w' i v → (∀ j u, F w j u → F w' j u) → K (a.put o.dst v) w') → if Region.wanted o (yielded ops a.tmps) = true then Oper.wp P o a w K Q else K (a.put o.dst undef) w
def StepsG (P : Program) (md : Region.Mode) (ops : Array Oper) (A : Act) (F : World → Nat → Value → Prop) (G : World → Prop) (Q : Exit → Act → World → Prop) : Nat → List Oper → Prop
  | _, [] => True
  | i, o :: os => StepG P md ops A F G Q i o ∧ StepsG P md ops A F G Q (i + 1) os
theorem StepsG.at {A : Act} {F : World → Nat → Value → Prop} {G : World → Prop} : ∀ (os : List Oper) (k i : Nat) (o : Oper), StepsG P md ops A F G Q k os → os[i]? = some o → StepG P md ops A F G Q (k + i) o
  | [], _, _, _, _, h => by simp at h
  | x :: os, k, 0, o, hs, h => by simp at h; subst h; exact hs.1
  | x :: os, k, i + 1, o, hs, h => by
    have := StepsG.at os (k + 1) i o hs.2 (by simpa using h)
    rw [show k + (i + 1) = k + 1 + i by omega]; exact this

theorem wp_region_factsG {id : Nat} {A : Act} {w : World} (hm : P.follows .mixedOrders = true) (n : Nat) (hn : A.tmps.size = n) (hok : okOpsG ops n = true) (F : World → Nat → Value → Prop) (G : World → Prop) (hG : G w.drew)
    (hsteps : StepsG P .any ops A F G Q 0 ops.toList)
    (hend : ∀ a w, Off ops A a → G w → (∀ (i : Nat) (o : Oper) (d : Tmp), ops[i]? = some o → o.dst = some d → ∃ v, a.tmps[d]? = some v ∧ F w i v) → Q .normal a w) :
    (Code.region id ops true).wp P Q A w := by
  refine wp_region_any hm (wpAny_inv (J := fun listed a w => listed.size = ops.size ∧ Off ops A a ∧ G w ∧ ∀ (i : Nat) (o : Oper) (d : Tmp), ops[i]? = some o → o.dst = some d → listed.getD i false = true → ∃ v, a.tmps[d]? = some v ∧ F w i v) ?_ ?_ _ _ _ _ ?_ ?_)
  · rintro listed a w i ⟨hsz, hoff, hg, hf⟩ hi
    obtain ⟨h1, o, ho, hall⟩ := mem_ready.1 hi
    obtain ⟨⟨d, k2, k3⟩, -, k4⟩ := okOpsG.at hok ho
    have hin := getD_lt h1
    have hst := StepsG.at ops.toList 0 i o hsteps (by simpa using ho)
    rw [Nat.zero_add] at hst
    unfold wpOp
    rw [ho]
    simp only
    have key := hst a w hoff hg (fun j o' d' hj ho' hd' => by
      obtain ⟨e, he, hb⟩ := Array.any_eq_true'.1 hj
      simp only [Bool.and_eq_true, beq_iff_eq] at hb
      exact hf j o' d' ho' hd' (by rw [← hb.2]; exact hall e he hb.1)) (fun a' w' => (listed.setIfInBounds i true).size = ops.size ∧ Off ops A a' ∧ G w' ∧ ∀ (j : Nat) (o : Oper) (d : Tmp), ops[j]? = some o → o.dst = some d → (listed.setIfInBounds i true).getD j false = true → ∃ v, a'.tmps[d]? = some v ∧ F w' j v) (fun v w' hg' hf' hstay => by
      rw [k2]
      refine ⟨by rw [Array.size_setIfInBounds]; exact hsz, hoff.put ho k2 v, hg', fun j o' d' ho' hd' hl => ?_⟩
      by_cases e : j = i
      · subst e
        obtain rfl : o' = o := Option.some.inj (ho'.symm.trans ho)
        obtain rfl : d' = d := Option.some.inj (hd'.symm.trans k2)
        refine ⟨v, ?_, hf'⟩
        show (a.tmps.setIfInBounds d' v)[d']? = _
        rw [Array.getElem?_setIfInBounds, if_pos rfl, if_pos (by rw [hoff.size, hn]; exact k3)]
      · rw [getD_set_ne false (fun h => e h.symm)] at hl
        obtain ⟨u, hu, hF⟩ := hf j o' d' ho' hd' hl
        refine ⟨u, ?_, hstay j u hF⟩
        have hne : d ≠ d' := fun h => k4 j o' ho' e (by rw [hd', k2, h])
        show (a.tmps.setIfInBounds d v)[d']? = _
        rw [Array.getElem?_setIfInBounds, if_neg hne]; exact hu)
    split
    · rename_i hw; rw [if_pos hw] at key; exact .inl key
    · rename_i hw; rw [if_neg hw] at key; exact key
  · rintro listed a w ⟨hsz, hoff, hg, hf⟩ hr
    refine hend a w hoff hg fun i o d ho hd => hf i o d ho hd ?_
    have all : ∀ i, i < ops.size → listed.getD i false = true := by
      intro i
      induction i using Nat.strongRecOn with
      | _ i ih =>
        intro hi
        cases hl : listed.getD i true with
        | true => simpa [hsz, hi] using hl
        | false =>
          have ho : ops[i]? = some ops[i] := Array.getElem?_eq_getElem hi
          have : i ∈ Region.ready .any ops listed := mem_ready.2 ⟨hl, ops[i], ho, fun e he _ => ih e.on ((okOpsG.at hok ho).2.1 e he) (Nat.lt_trans ((okOpsG.at hok ho).2.1 e he) hi)⟩
          rw [hr] at this; cases this
    exact all i (Array.getElem?_eq_some_iff.1 ho).1
  · exact Nat.le_trans List.countP_le_length (by simp)
  · exact ⟨by simp, Off.refl _ _, hG, fun i o d _ _ hl => by rw [none_listed] at hl; cases hl⟩

theorem off_at {b a : Act} (h : Off ops b a) (k : Nat) {v : Value} (hd : (ops.toList.all fun o => o.dst != some k) = true) (hv : b.tmps[k]? = some v) : a.tmps[k]? = some v :=
  (h.off k fun i o ho he => by
    rw [List.all_eq_true] at hd
    have := hd o (by rw [Array.mem_toList_iff]; exact Array.mem_of_getElem? ho)
    rw [he] at this; simp at this).trans hv
end
end Go.Proofs.YtgjemmdhamkngaaGreatDoor

/-
  A region that draws its order, whose last operation hangs on all the others (a store): by facts that stand, and what that one does.
-/
namespace Go.Proofs.YtgjemmdhamkngaaGreatDoor
open Go

section
variable {P : Program} {ops : Array Oper} {Q : Exit → Act → World → Prop}

/-- Each operation but the last has a result of its own, each waits for earlier ones alone, and each is waited for by a later one. -/
def okOpsL (ops : Array Oper) (n : Nat) : Bool :=
  (List.range ops.size).all fun i => match ops[i]? with
    | none => true
    | some o => o.after.all (fun e => decide (e.on < i)) && (i + 1 == ops.size || ((match o.dst with | some d => decide (d < n) | none => false) &&
      (List.range ops.size).all (fun j => j == i || (match ops[j]? with | some o' => !(o'.dst == o.dst) | none => true)) &&
      (List.range ops.size).any (fun j => match ops[j]? with | some o' => o'.after.any (fun e => Region.binds .any e && e.on == i) | none => false)))
theorem okOpsL.at {n i : Nat} {o : Oper} (h : okOpsL ops n = true) (ho : ops[i]? = some o) : (∀ e ∈ o.after, e.on < i) ∧ (i + 1 < ops.size → (∃ d, o.dst = some d ∧ d < n) ∧ (∀ j o', ops[j]? = some o' → j ≠ i → o'.dst ≠ o.dst) ∧ ∃ (j : Nat) (o' : Oper), ops[j]? = some o' ∧ ∃ e ∈ o'.after, Region.binds .any e = true ∧ e.on = i) := by
  unfold okOpsL at h
  rw [List.all_eq_true] at h
  have h1 := h i (List.mem_range.2 (Array.getElem?_eq_some_iff.1 ho).1)
  rw [ho] at h1
  simp only [Bool.and_eq_true, Bool.or_eq_true, beq_iff_eq] at h1
  obtain ⟨g3, g⟩ := h1
  refine ⟨fun e he => of_decide_eq_true (Array.all_eq_true_iff_forall_mem.1 g3 e he), fun hlt => ?_⟩
  rcases g with g | ⟨⟨g2, g4⟩, g5⟩
  · omega
  refine ⟨?_, ?_, ?_⟩
  · split at g2
    · rename_i d hd; exact ⟨d, hd, of_decide_eq_true g2⟩
    · cases g2
  · intro j o' hj hne he
    rw [List.all_eq_true] at g4
    have h2 := g4 j (List.mem_range.2 (Array.getElem?_eq_some_iff.1 hj).1)
    rw [hj] at h2
    simp [hne, he] at h2
  · obtain ⟨j, _, hj2⟩ := List.any_eq_true.1 g5
    split at hj2
    · rename_i o' ho'
      obtain ⟨e, he, hb⟩ := Array.any_eq_true'.1 hj2
      simp only [Bool.and_eq_true, beq_iff_eq] at hb
      exact ⟨j, o', ho', e, he, hb.1, hb.2⟩
    · cases hj2

/-- What is asked of one operation but the last: what it reads stands but for the results of the others. -/
def StepL (P : Program) (ops : Array Oper) (A : Act) (F : World → Nat → Value → Prop) (G : World → Prop) (Q : Exit → Act → World → Prop) (i : Nat) (o : Oper) : Prop :=
  ∀ (a : Act) (w : World), Off ops.pop A a → G w →
    (∀ (j : Nat) (o' : Oper) (d : Tmp), (o.after.any fun e => Region.binds .any e && e.on == j) = true → ops[j]? = some o' → o'.dst = some d → ∃ v, a.tmps[d]? = some v ∧ F w j v) →
    ∀ K : Act → World → Prop, Shut (∀ v w', G w' → F w' i v → (∀ j u, F w j u → F w' j u) → K (a.put o.dst v) w') → if Region.wanted o (yielded ops a.tmps) = true then Oper.wp P o a w K Q else K (a.put o.dst undef) w
def StepsL (P : Program) (ops : Array Oper) (A : Act) (F : World → Nat → Value → Prop) (G : World → Prop) (Q : Exit → Act → World → Prop) : Nat → List Oper → Prop
  | _, [] => True
  | i, o :: os => StepL P ops A F G Q i o ∧ StepsL P ops A F G Q (i + 1) os
theorem StepsL.at {A : Act} {F : World → Nat → Value → Prop} {G : World → Prop} : ∀ (os : List Oper) (k i : Nat) (o : Oper), StepsL P ops A F G Q k os → os[i]? = some o → StepL P ops A F G Q (k + i) o
  | [], _, _, _, _, h => by simp at h
  | x :: os, k, 0, o, hs, h => by simp at h; subst h; exact hs.1
  | x :: os, k, i + 1, o, hs, h => by
    have := StepsL.at os (k + 1) i o hs.2 (by simpa using h)
    rw [show k + (i + 1) = k + 1 + i by omega]; exact this

theorem wp_region_factsL {id : Nat} {A : Act} {w : World} (hm : P.follows .mixedOrders = true) (n : Nat) (hn : A.tmps.size = n) (hok : okOpsL ops n = true) (F : World → Nat → Value → Prop) (G : World → Prop) (hG : G w.drew)
    (hsteps : StepsL P ops A F G Q 0 ops.toList.dropLast)
    {o : Oper} (hback : ops.back? = some o) (hlast : ∀ a w, Off ops.pop A a → G w → (∀ (i : Nat) (o : Oper) (d : Tmp), i + 1 < ops.size → ops[i]? = some o → o.dst = some d → ∃ v, a.tmps[d]? = some v ∧ F w i v) → if Region.wanted o (yielded ops a.tmps) = true then Oper.wp P o a w (fun a' w' => Q .normal a' w') Q else Q .normal (a.put o.dst undef) w)
    (hpos : 0 < ops.size) :
    (Code.region id ops true).wp P Q A w := by
  refine wp_region_any hm (wpAny_inv (J := fun listed a w => listed.size = ops.size ∧ ((listed.getD (ops.size - 1) false = false ∧ Off ops.pop A a ∧ G w ∧ (∀ (i : Nat) (o : Oper), ops[i]? = some o → listed.getD i false = true → ∀ e ∈ o.after, Region.binds .any e = true → listed.getD e.on false = true) ∧
      ∀ (i : Nat) (o : Oper) (d : Tmp), ops[i]? = some o → o.dst = some d → listed.getD i false = true → ∃ v, a.tmps[d]? = some v ∧ F w i v) ∨ ((∀ i, i < ops.size → listed.getD i false = true) ∧ Q .normal a w))) ?_ ?_ _ _ _ _ ?_ ?_)
  · rintro listed a w i ⟨hsz, hJ⟩ hi
    obtain ⟨h1, o, ho, hall⟩ := mem_ready.1 hi
    have HBK := hback
    have hin := getD_lt h1
    have hlf : listed.getD i false = false := by
      have : i < listed.size := hin
      simp [this] at h1 ⊢; exact h1
    rcases hJ with ⟨hl0, hoff, hg, hcl, hf⟩ | ⟨hal, -⟩
    case inr => rw [hal i (by omega)] at hlf; cases hlf
    obtain ⟨kaft, krest⟩ := okOpsL.at hok ho
    by_cases hlt : i + 1 < ops.size
    · obtain ⟨⟨d, k2, k3⟩, k4, -⟩ := krest hlt
      have hst := StepsL.at ops.toList.dropLast 0 i o hsteps (by rw [List.getElem?_dropLast, if_pos (by simp; omega)]; simpa using ho)
      rw [Nat.zero_add] at hst
      unfold wpOp
      rw [ho]
      simp only
      have key := hst a w hoff hg (fun j o' d' hj ho' hd' => by
        obtain ⟨e, he, hb⟩ := Array.any_eq_true'.1 hj
        simp only [Bool.and_eq_true, beq_iff_eq] at hb
        exact hf j o' d' ho' hd' (by rw [← hb.2]; exact hall e he hb.1)) (fun a' w' => (listed.setIfInBounds i true).size = ops.size ∧ (((listed.setIfInBounds i true).getD (ops.size - 1) false = false ∧ Off ops.pop A a' ∧ G w' ∧ (∀ (i' : Nat) (o : Oper), ops[i']? = some o → (listed.setIfInBounds i true).getD i' false = true → ∀ e ∈ o.after, Region.binds .any e = true → (listed.setIfInBounds i true).getD e.on false = true) ∧
          ∀ (j : Nat) (o : Oper) (d : Tmp), ops[j]? = some o → o.dst = some d → (listed.setIfInBounds i true).getD j false = true → ∃ v, a'.tmps[d]? = some v ∧ F w' j v) ∨ ((∀ i', i' < ops.size → (listed.setIfInBounds i true).getD i' false = true) ∧ Q .normal a' w'))) (fun v w' hg' hf' hstay => by
        rw [k2]
        refine ⟨by rw [Array.size_setIfInBounds]; exact hsz, .inl ⟨by rw [getD_set_ne false (by omega)]; exact hl0, hoff.put (i := i) (o := o) (by rw [Array.getElem?_pop, if_pos (by omega)]; exact ho) k2 v, hg', fun i' o' ho' hl' e he hb => ?_, fun j o' d' ho' hd' hl => ?_⟩⟩
        · have up : ∀ q, listed.getD q false = true → (listed.setIfInBounds i true).getD q false = true := fun q hq => by
            by_cases e : i = q
            · subst e; simp [hin]
            · rw [getD_set_ne false e]; exact hq
          by_cases e' : i' = i
          · subst e'
            obtain rfl : o' = o := Option.some.inj (ho'.symm.trans ho)
            exact up _ (hall e he hb)
          · rw [getD_set_ne false (fun h => e' h.symm)] at hl'
            exact up _ (hcl i' o' ho' hl' e he hb)
        · by_cases e : j = i
          · subst e
            obtain rfl : o' = o := Option.some.inj (ho'.symm.trans ho)
            obtain rfl : d' = d := Option.some.inj (hd'.symm.trans k2)
            refine ⟨v, ?_, hf'⟩
            show (a.tmps.setIfInBounds d' v)[d']? = _
            rw [Array.getElem?_setIfInBounds, if_pos rfl, if_pos (by rw [hoff.size, hn]; exact k3)]
          · rw [getD_set_ne false (fun h => e h.symm)] at hl
            obtain ⟨u, hu, hF⟩ := hf j o' d' ho' hd' hl
            refine ⟨u, ?_, hstay j u hF⟩
            have hne : d ≠ d' := fun h => k4 j o' ho' e (by rw [hd', k2, h])
            show (a.tmps.setIfInBounds d v)[d']? = _
            rw [Array.getElem?_setIfInBounds, if_neg hne]; exact hu)
      split
      · rename_i hw; rw [if_pos hw] at key; exact .inl key
      · rename_i hw; rw [if_neg hw] at key; exact key
    · obtain rfl : i = ops.size - 1 := by have := (Array.getElem?_eq_some_iff.1 ho).1; omega
      have hoe := Option.some.inj (HBK.symm.trans (by rw [Array.back?_eq_getElem?]; exact ho))
      subst hoe
      have all : ∀ k j, j + k + 1 = ops.size → 0 < k → listed.getD j false = true := by
        intro k
        induction k using Nat.strongRecOn with
        | _ k ih =>
          intro j hj hk
          have hoj : ops[j]? = some (ops[j]'(by omega)) := Array.getElem?_eq_getElem _
          obtain ⟨-, hr⟩ := okOpsL.at hok hoj
          obtain ⟨-, -, j', o', hj', e, he, hb, hon⟩ := hr (by omega)
          have hlt' : j < j' := by rw [← hon]; exact (okOpsL.at hok hj').1 e he
          have hj'lt := (Array.getElem?_eq_some_iff.1 hj').1
          by_cases hL : j' = ops.size - 1
          · subst hL
            obtain rfl : o' = o := Option.some.inj (hj'.symm.trans ho)
            rw [← hon]; exact hall e he hb
          · have := ih (ops.size - 1 - j') (by omega) j' (by omega) (by omega)
            rw [← hon]; exact hcl j' o' hj' this e he hb
      have key := hlast a w hoff hg (fun i' o' d' hi' ho' hd' => hf i' o' d' ho' hd' (all (ops.size - 1 - i') i' (by omega) (by omega)))
      have fin : ∀ a' w', Q .normal a' w' → (listed.setIfInBounds (ops.size - 1) true).size = ops.size ∧ (((listed.setIfInBounds (ops.size - 1) true).getD (ops.size - 1) false = false ∧ Off ops.pop A a' ∧ G w' ∧ (∀ (i' : Nat) (o : Oper), ops[i']? = some o → (listed.setIfInBounds (ops.size - 1) true).getD i' false = true → ∀ e ∈ o.after, Region.binds .any e = true → (listed.setIfInBounds (ops.size - 1) true).getD e.on false = true) ∧
          ∀ (j : Nat) (o : Oper) (d : Tmp), ops[j]? = some o → o.dst = some d → (listed.setIfInBounds (ops.size - 1) true).getD j false = true → ∃ v, a'.tmps[d]? = some v ∧ F w' j v) ∨ ((∀ i', i' < ops.size → (listed.setIfInBounds (ops.size - 1) true).getD i' false = true) ∧ Q .normal a' w')) := by
        intro a' w' hq
        refine ⟨by rw [Array.size_setIfInBounds]; exact hsz, .inr ⟨fun i' hi' => ?_, hq⟩⟩
        by_cases e : ops.size - 1 = i'
        · subst e; simp [hin]
        · rw [getD_set_ne false e]; exact all (ops.size - 1 - i') i' (by omega) (by omega)
      have hop : wpOp P ops Q (ops.size - 1) (fun a' w' => Q .normal a' w') a w := by
        unfold wpOp
        rw [ho]
        simp only
        split
        · rename_i hw; rw [if_pos hw] at key; exact .inl key
        · rename_i hw; rw [if_neg hw] at key; exact key
      exact wpOp_mono (fun a' w' h => fin a' w' h) hop
  · rintro listed a w ⟨hsz, hJ⟩ hr
    rcases hJ with ⟨hl0, -⟩ | ⟨-, hq⟩
    case inr => exact hq
    exfalso
    have all : ∀ i, i < ops.size → listed.getD i false = true := by
      intro i
      induction i using Nat.strongRecOn with
      | _ i ih =>
        intro hi
        cases hl : listed.getD i true with
        | true => simpa [hsz, hi] using hl
        | false =>
          have ho : ops[i]? = some ops[i] := Array.getElem?_eq_getElem hi
          have : i ∈ Region.ready .any ops listed := mem_ready.2 ⟨hl, ops[i], ho, fun e he _ => ih e.on ((okOpsL.at hok ho).1 e he) (Nat.lt_trans ((okOpsL.at hok ho).1 e he) hi)⟩
          rw [hr] at this; cases this
    rw [all (ops.size - 1) (by omega)] at hl0
    cases hl0
  · exact Nat.le_trans List.countP_le_length (by simp)
  · exact ⟨by simp, .inl ⟨none_listed _ _, Off.refl _ _, hG, fun i o _ hl => (by rw [none_listed] at hl; cases hl), fun i o d _ _ hl => by rw [none_listed] at hl; cases hl⟩⟩
end
end Go.Proofs.YtgjemmdhamkngaaGreatDoor

/-
  A region that draws its order, one of whose operations (an append) turns what stands, and whose last one hangs on all the others: by facts that stand, ahead of that operation and behind it.
-/
namespace Go.Proofs.YtgjemmdhamkngaaGreatDoor
open Go

section
variable {P : Program} {ops : Array Oper} {Q : Exit → Act → World → Prop}

/-- What operation t hangs on ('early'): each such is waited for by another such, or by t. -/
def okEarly (ops : Array Oper) (t : Nat) (early : Nat → Bool) : Bool :=
  decide (t + 1 < ops.size) && (List.range ops.size).all fun i => !early i || (decide (i < t) && (List.range ops.size).any fun j => (j == t || early j) && (match ops[j]? with | some o' => o'.after.any (fun e => Region.binds .any e && e.on == i) | none => false))
theorem okEarly.at {t i : Nat} {early : Nat → Bool} (h : okEarly ops t early = true) (hi : i < ops.size) (he : early i = true) : i < t ∧ ∃ (j : Nat) (o' : Oper), (j = t ∨ early j = true) ∧ ops[j]? = some o' ∧ ∃ e ∈ o'.after, Region.binds .any e = true ∧ e.on = i := by
  unfold okEarly at h
  simp only [Bool.and_eq_true, List.all_eq_true] at h
  have h1 := h.2 i (List.mem_range.2 hi)
  rw [he] at h1
  simp only [Bool.not_true, Bool.false_or, Bool.and_eq_true, decide_eq_true_eq] at h1
  refine ⟨h1.1, ?_⟩
  obtain ⟨j, _, hj2⟩ := List.any_eq_true.1 h1.2
  simp only [Bool.and_eq_true, Bool.or_eq_true, beq_iff_eq] at hj2
  obtain ⟨g1, g2⟩ := hj2
  split at g2
  · rename_i o' ho'
    obtain ⟨e, hee, hb⟩ := Array.any_eq_true'.1 g2
    simp only [Bool.and_eq_true, beq_iff_eq] at hb
    exact ⟨j, o', g1, ho', e, hee, hb.1, hb.2⟩
  · cases g2

/-- What is asked of one operation that is neither t nor the last, in phase ph (has t been?). -/
def StepP (P : Program) (ops : Array Oper) (A : Act) (F : Bool → World → Nat → Value → Prop) (G : Bool → World → Prop) (Q : Exit → Act → World → Prop) (ph : Bool) (i : Nat) (o : Oper) : Prop :=
  ∀ (a : Act) (w : World), Off ops.pop A a → G ph w →
    (∀ (j : Nat) (o' : Oper) (d : Tmp), (o.after.any fun e => Region.binds .any e && e.on == j) = true → ops[j]? = some o' → o'.dst = some d → ∃ v, a.tmps[d]? = some v ∧ F ph w j v) →
    ∀ K : Act → World → Prop, Shut (∀ v w', G ph w' → F ph w' i v → (∀ j u, F ph w j u → F ph w' j u) → K (a.put o.dst v) w') → if Region.wanted o (yielded ops a.tmps) = true then Oper.wp P o a w K Q else K (a.put o.dst undef) w
/-- What is asked of operation t. -/
def StepT (P : Program) (ops : Array Oper) (A : Act) (F : Bool → World → Nat → Value → Prop) (G : Bool → World → Prop) (Q : Exit → Act → World → Prop) (i : Nat) (o : Oper) : Prop :=
  ∀ (a : Act) (w : World), Off ops.pop A a → G false w →
    (∀ (j : Nat) (o' : Oper) (d : Tmp), (o.after.any fun e => Region.binds .any e && e.on == j) = true → ops[j]? = some o' → o'.dst = some d → ∃ v, a.tmps[d]? = some v ∧ F false w j v) →
    ∀ K : Act → World → Prop, Shut (∀ v w', G true w' → F true w' i v → (∀ j u, j ≠ i → F false w j u → F true w' j u) → K (a.put o.dst v) w') → if Region.wanted o (yielded ops a.tmps) = true then Oper.wp P o a w K Q else K (a.put o.dst undef) w
def StepsP (P : Program) (ops : Array Oper) (A : Act) (F : Bool → World → Nat → Value → Prop) (G : Bool → World → Prop) (Q : Exit → Act → World → Prop) (t : Nat) (early : Nat → Bool) : Nat → List Oper → Prop
  | _, [] => True
  | i, o :: os => (match i == t, early i with
      | true, _ => StepT P ops A F G Q i o
      | false, true => StepP P ops A F G Q false i o
      | false, false => ∀ ph, StepP P ops A F G Q ph i o) ∧ StepsP P ops A F G Q t early (i + 1) os
theorem StepsP.at {A : Act} {F : Bool → World → Nat → Value → Prop} {G : Bool → World → Prop} {t : Nat} {early : Nat → Bool} : ∀ (os : List Oper) (k i : Nat) (o : Oper), StepsP P ops A F G Q t early k os → os[i]? = some o →
    (match k + i == t, early (k + i) with
      | true, _ => StepT P ops A F G Q (k + i) o
      | false, true => StepP P ops A F G Q false (k + i) o
      | false, false => ∀ ph, StepP P ops A F G Q ph (k + i) o)
  | [], _, _, _, _, h => by simp at h
  | x :: os, k, 0, o, hs, h => by simp at h; subst h; exact hs.1
  | x :: os, k, i + 1, o, hs, h => by
    have := StepsP.at os (k + 1) i o hs.2 (by simpa using h)
    rw [show k + (i + 1) = k + 1 + i by omega]; exact this

theorem wp_region_factsP {id : Nat} {A : Act} {w : World} (hm : P.follows .mixedOrders = true) (n : Nat) (hn : A.tmps.size = n) (hok : okOpsL ops n = true) (t : Nat) (early : Nat → Bool) (het : okEarly ops t early = true) (F : Bool → World → Nat → Value → Prop) (G : Bool → World → Prop) (hG : G false w.drew)
    (hsteps : StepsP P ops A F G Q t early 0 ops.toList.dropLast)
    {o : Oper} (hback : ops.back? = some o) (hlast : ∀ a w, Off ops.pop A a → G true w → (∀ (i : Nat) (o : Oper) (d : Tmp), i + 1 < ops.size → ops[i]? = some o → o.dst = some d → ∃ v, a.tmps[d]? = some v ∧ F true w i v) → if Region.wanted o (yielded ops a.tmps) = true then Oper.wp P o a w (fun a' w' => Q .normal a' w') Q else Q .normal (a.put o.dst undef) w) :
    (Code.region id ops true).wp P Q A w := by
  have htl : t + 1 < ops.size := by unfold okEarly at het; simp only [Bool.and_eq_true, decide_eq_true_eq] at het; exact het.1
  refine wp_region_any hm (wpAny_inv (J := fun listed a w => listed.size = ops.size ∧ ((listed.getD (ops.size - 1) false = false ∧ Off ops.pop A a ∧ G (listed.getD t false) w ∧ (∀ (i : Nat) (o : Oper), ops[i]? = some o → listed.getD i false = true → ∀ e ∈ o.after, Region.binds .any e = true → listed.getD e.on false = true) ∧
      ∀ (i : Nat) (o : Oper) (d : Tmp), ops[i]? = some o → o.dst = some d → listed.getD i false = true → ∃ v, a.tmps[d]? = some v ∧ F (listed.getD t false) w i v) ∨ ((∀ i, i < ops.size → listed.getD i false = true) ∧ Q .normal a w))) ?_ ?_ _ _ _ _ ?_ ?_)
  · rintro listed a w i ⟨hsz, hJ⟩ hi
    obtain ⟨h1, o, ho, hall⟩ := mem_ready.1 hi
    have HBK := hback
    have hin := getD_lt h1
    have hlf : listed.getD i false = false := by
      have : i < listed.size := hin
      simp [this] at h1 ⊢; exact h1
    rcases hJ with ⟨hl0, hoff, hg, hcl, hf⟩ | ⟨hal, -⟩
    case inr => rw [hal i (by omega)] at hlf; cases hlf
    obtain ⟨kaft, krest⟩ := okOpsL.at hok ho
    by_cases hlt : i + 1 < ops.size
    · obtain ⟨⟨d, k2, k3⟩, k4, -⟩ := krest hlt
      have hst := StepsP.at ops.toList.dropLast 0 i o hsteps (by rw [List.getElem?_dropLast, if_pos (by simp; omega)]; simpa using ho)
      rw [Nat.zero_add] at hst
      have up : ∀ q, listed.getD q false = true → (listed.setIfInBounds i true).getD q false = true := fun q hq => by
        by_cases e : i = q
        · subst e; simp [hin]
        · rw [getD_set_ne false e]; exact hq
      have closed : ∀ (i' : Nat) (o' : Oper), ops[i']? = some o' → (listed.setIfInBounds i true).getD i' false = true → ∀ e ∈ o'.after, Region.binds .any e = true → (listed.setIfInBounds i true).getD e.on false = true := fun i' o' ho' hl' e he hb => by
        by_cases e' : i' = i
        · subst e'
          obtain rfl : o' = o := Option.some.inj (ho'.symm.trans ho)
          exact up _ (hall e he hb)
        · rw [getD_set_ne false (fun h => e' h.symm)] at hl'
          exact up _ (hcl i' o' ho' hl' e he hb)
      have nl : (listed.setIfInBounds i true).getD (ops.size - 1) false = false := by rw [getD_set_ne false (by omega)]; exact hl0
      have dep : ∀ ph, ph = listed.getD t false → (∀ (j : Nat) (o' : Oper) (d : Tmp), (o.after.any fun e => Region.binds .any e && e.on == j) = true → ops[j]? = some o' → o'.dst = some d → ∃ v, a.tmps[d]? = some v ∧ F ph w j v) := fun ph hph j o' d' hj ho' hd' => by
        obtain ⟨e, he, hb⟩ := Array.any_eq_true'.1 hj
        simp only [Bool.and_eq_true, beq_iff_eq] at hb
        rw [hph]
        exact hf j o' d' ho' hd' (by rw [← hb.2]; exact hall e he hb.1)
      have facts : ∀ (ph ph' : Bool) (v : Value) (w' : World), ph = listed.getD t false → F ph' w' i v → (∀ j u, j ≠ i → F ph w j u → F ph' w' j u) → ∀ (j : Nat) (o' : Oper) (d' : Tmp), ops[j]? = some o' → o'.dst = some d' → (listed.setIfInBounds i true).getD j false = true → ∃ u, (a.put o.dst v).tmps[d']? = some u ∧ F ph' w' j u := fun ph ph' v w' hph hf' hstay j o' d' ho' hd' hl => by
        rw [k2]
        by_cases e : j = i
        · subst e
          obtain rfl : o' = o := Option.some.inj (ho'.symm.trans ho)
          obtain rfl : d' = d := Option.some.inj (hd'.symm.trans k2)
          refine ⟨v, ?_, hf'⟩
          show (a.tmps.setIfInBounds d' v)[d']? = _
          rw [Array.getElem?_setIfInBounds, if_pos rfl, if_pos (by rw [hoff.size, hn]; exact k3)]
        · rw [getD_set_ne false (fun h => e h.symm)] at hl
          obtain ⟨u, hu, hF⟩ := hf j o' d' ho' hd' hl
          rw [← hph] at hF
          refine ⟨u, ?_, hstay j u e hF⟩
          have hne : d ≠ d' := fun h => k4 j o' ho' e (by rw [hd', k2, h])
          show (a.tmps.setIfInBounds d v)[d']? = _
          rw [Array.getElem?_setIfInBounds, if_neg hne]; exact hu
      have offs : ∀ v, Off ops.pop A (a.put o.dst v) := fun v => by rw [k2]; exact hoff.put (i := i) (o := o) (by rw [Array.getElem?_pop, if_pos (by omega)]; exact ho) k2 v
      have fin : ∀ (K : Act → World → Prop), (if Region.wanted o (yielded ops a.tmps) = true then Oper.wp P o a w K Q else K (a.put o.dst undef) w) → (∀ a' w', K a' w' → (listed.setIfInBounds i true).size = ops.size ∧ (((listed.setIfInBounds i true).getD (ops.size - 1) false = false ∧ Off ops.pop A a' ∧ G ((listed.setIfInBounds i true).getD t false) w' ∧ (∀ (i' : Nat) (o : Oper), ops[i']? = some o → (listed.setIfInBounds i true).getD i' false = true → ∀ e ∈ o.after, Region.binds .any e = true → (listed.setIfInBounds i true).getD e.on false = true) ∧
          ∀ (j : Nat) (o : Oper) (d : Tmp), ops[j]? = some o → o.dst = some d → (listed.setIfInBounds i true).getD j false = true → ∃ v, a'.tmps[d]? = some v ∧ F ((listed.setIfInBounds i true).getD t false) w' j v) ∨ ((∀ i', i' < ops.size → (listed.setIfInBounds i true).getD i' false = true) ∧ Q .normal a' w'))) → wpOp P ops Q i (fun a' w' => (listed.setIfInBounds i true).size = ops.size ∧ (((listed.setIfInBounds i true).getD (ops.size - 1) false = false ∧ Off ops.pop A a' ∧ G ((listed.setIfInBounds i true).getD t false) w' ∧ (∀ (i' : Nat) (o : Oper), ops[i']? = some o → (listed.setIfInBounds i true).getD i' false = true → ∀ e ∈ o.after, Region.binds .any e = true → (listed.setIfInBounds i true).getD e.on false = true) ∧
          ∀ (j : Nat) (o : Oper) (d : Tmp), ops[j]? = some o → o.dst = some d → (listed.setIfInBounds i true).getD j false = true → ∃ v, a'.tmps[d]? = some v ∧ F ((listed.setIfInBounds i true).getD t false) w' j v) ∨ ((∀ i', i' < ops.size → (listed.setIfInBounds i true).getD i' false = true) ∧ Q .normal a' w'))) a w := by
        intro K key hK
        refine wpOp_mono (fun a' w' h => hK a' w' h) ?_
        unfold wpOp
        rw [ho]
        simp only
        split
        · rename_i hw; rw [if_pos hw] at key; exact .inl key
        · rename_i hw; rw [if_neg hw] at key; exact key
      by_cases hit : i = t
      · subst hit
        simp only [beq_self_eq_true] at hst
        have hph : listed.getD i false = false := hlf
        have hnew : (listed.setIfInBounds i true).getD i false = true := by simp [hin]
        rw [hph] at hg
        refine fin (fun a' w' => ∃ v, a' = a.put o.dst v ∧ G true w' ∧ F true w' i v ∧ ∀ j u, j ≠ i → F false w j u → F true w' j u) (hst a w hoff hg (dep false hph.symm) _ fun v w' g1 g2 g3 => ⟨v, rfl, g1, g2, g3⟩) ?_
        rintro a' w' ⟨v, rfl, g1, g2, g3⟩
        refine ⟨by rw [Array.size_setIfInBounds]; exact hsz, .inl ⟨nl, offs v, by rw [hnew]; exact g1, closed, ?_⟩⟩
        rw [hnew]
        exact facts false true v w' hph.symm g2 g3
      · have hnew : (listed.setIfInBounds i true).getD t false = listed.getD t false := getD_set_ne false hit
        have hbeq : (i == t) = false := by simpa using hit
        rw [hbeq] at hst
        -- what t hangs on has been, once t has
        have early_done : listed.getD t false = true → ∀ k q, q + k = t → 0 < k → early q = true → listed.getD q false = true := by
          intro hlt' k
          induction k using Nat.strongRecOn with
          | _ k ih =>
            intro q hq hk he
            obtain ⟨h2, j, o', hj, ho', e, hee, hb, hon⟩ := okEarly.at het (i := q) (by omega) he
            have hqj : q < j := by rw [← hon]; exact (okOpsL.at hok ho').1 e hee
            have hjl : listed.getD j false = true := by
              rcases hj with rfl | hj
              · exact hlt'
              · have hjt := (okEarly.at het (i := j) (Array.getElem?_eq_some_iff.1 ho').1 hj).1
                exact ih (t - j) (by omega) j (by omega) (by omega) hj
            rw [← hon]; exact hcl j o' ho' hjl e hee hb
        cases he : early i with
        | true =>
          rw [he] at hst
          simp only at hst
          have hph : listed.getD t false = false := by
            cases hq : listed.getD t false with
            | false => rfl
            | true =>
              have := early_done hq (t - i) i (by have := (okEarly.at het (by omega) he).1; omega) (by have := (okEarly.at het (by omega) he).1; omega) he
              rw [hlf] at this; cases this
          rw [hph] at hg hnew
          refine fin (fun a' w' => ∃ v, a' = a.put o.dst v ∧ G false w' ∧ F false w' i v ∧ ∀ j u, F false w j u → F false w' j u) (hst a w hoff hg (dep false hph.symm) _ fun v w' g1 g2 g3 => ⟨v, rfl, g1, g2, g3⟩) ?_
          rintro a' w' ⟨v, rfl, g1, g2, g3⟩
          refine ⟨by rw [Array.size_setIfInBounds]; exact hsz, .inl ⟨nl, offs v, by rw [hnew]; exact g1, closed, ?_⟩⟩
          rw [hnew]
          exact facts false false v w' hph.symm g2 (fun j u _ h => g3 j u h)
        | false =>
          rw [he] at hst
          simp only at hst
          refine fin (fun a' w' => ∃ v, a' = a.put o.dst v ∧ G (listed.getD t false) w' ∧ F (listed.getD t false) w' i v ∧ ∀ j u, F (listed.getD t false) w j u → F (listed.getD t false) w' j u) (hst (listed.getD t false) a w hoff hg (dep _ rfl) _ fun v w' g1 g2 g3 => ⟨v, rfl, g1, g2, g3⟩) ?_
          rintro a' w' ⟨v, rfl, g1, g2, g3⟩
          refine ⟨by rw [Array.size_setIfInBounds]; exact hsz, .inl ⟨nl, offs v, by rw [hnew]; exact g1, closed, ?_⟩⟩
          rw [hnew]
          exact facts _ _ v w' rfl g2 (fun j u _ h => g3 j u h)
    · obtain rfl : i = ops.size - 1 := by have := (Array.getElem?_eq_some_iff.1 ho).1; omega
      have hoe := Option.some.inj (HBK.symm.trans (by rw [Array.back?_eq_getElem?]; exact ho))
      subst hoe
      have all : ∀ k j, j + k + 1 = ops.size → 0 < k → listed.getD j false = true := by
        intro k
        induction k using Nat.strongRecOn with
        | _ k ih =>
          intro j hj hk
          have hoj : ops[j]? = some (ops[j]'(by omega)) := Array.getElem?_eq_getElem _
          obtain ⟨-, hr⟩ := okOpsL.at hok hoj
          obtain ⟨-, -, j', o', hj', e, he, hb, hon⟩ := hr (by omega)
          have hlt' : j < j' := by rw [← hon]; exact (okOpsL.at hok hj').1 e he
          have hj'lt := (Array.getElem?_eq_some_iff.1 hj').1
          by_cases hL : j' = ops.size - 1
          · subst hL
            obtain rfl := Option.some.inj (hj'.symm.trans ho)
            rw [← hon]; exact hall e he hb
          · have := ih (ops.size - 1 - j') (by omega) j' (by omega) (by omega)
            rw [← hon]; exact hcl j' o' hj' this e he hb
      have ht1 : listed.getD t false = true := all (ops.size - 1 - t) t (by omega) (by omega)
      rw [ht1] at hg hf
      have key := hlast a w hoff hg (fun i' o' d' hi' ho' hd' => hf i' o' d' ho' hd' (all (ops.size - 1 - i') i' (by omega) (by omega)))
      have hop : wpOp P ops Q (ops.size - 1) (fun a' w' => Q .normal a' w') a w := by
        unfold wpOp
        rw [ho]
        simp only
        split
        · rename_i hw; rw [if_pos hw] at key; exact .inl key
        · rename_i hw; rw [if_neg hw] at key; exact key
      refine wpOp_mono (fun a' w' hq => ⟨by rw [Array.size_setIfInBounds]; exact hsz, .inr ⟨fun i' hi' => ?_, hq⟩⟩) hop
      by_cases e : ops.size - 1 = i'
      · subst e; simp [hin]
      · rw [getD_set_ne false e]; exact all (ops.size - 1 - i') i' (by omega) (by omega)
  · rintro listed a w ⟨hsz, hJ⟩ hr
    rcases hJ with ⟨hl0, -⟩ | ⟨-, hq⟩
    case inr => exact hq
    exfalso
    have all : ∀ i, i < ops.size → listed.getD i false = true := by
      intro i
      induction i using Nat.strongRecOn with
      | _ i ih =>
        intro hi
        cases hl : listed.getD i true with
        | true => simpa [hsz, hi] using hl
        | false =>
          have ho : ops[i]? = some ops[i] := Array.getElem?_eq_getElem hi
          have : i ∈ Region.ready .any ops listed := mem_ready.2 ⟨hl, ops[i], ho, fun e he _ => ih e.on ((okOpsL.at hok ho).1 e he) (Nat.lt_trans ((okOpsL.at hok ho).1 e he) hi)⟩
          rw [hr] at this; cases this
    rw [all (ops.size - 1) (by omega)] at hl0
    cases hl0
  · exact Nat.le_trans List.countP_le_length (by simp)
  · exact ⟨by simp, .inl ⟨none_listed _ _, Off.refl _ _, by rw [none_listed]; exact hG, fun i o _ hl => (by rw [none_listed] at hl; cases hl), fun i o d _ _ hl => by rw [none_listed] at hl; cases hl⟩⟩
end
end Go.Proofs.YtgjemmdhamkngaaGreatDoor
