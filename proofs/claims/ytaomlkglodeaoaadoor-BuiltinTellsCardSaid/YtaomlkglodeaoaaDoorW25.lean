/-
  The document's own Test: of any op and values.
-/
import Derived.Test.YtaomlkglodeaoaaDoorW17
import Derived.Test.YtaomlkglodeaoaaDoorW13
import Derived.Test.YtaomlkglodeaoaaDoorW15
import Derived.Test.YtaomlkglodeaoaaDoorW24
import Derived.Orders
import Derived.Deep.RegionHeld
import Derived.WalkKit
import Derived.Deep.RegionHeld3
import Derived.Deep.RegionWith
namespace Go.Proofs.YtaomlkglodeaoaaDoor
open Go.RowKit

theorem tst_facts (s : ByteArray) : ((s.toList == [61, 61]) = true ∧ (s.toList == [33, 61]) = false ∧ (s.toList == [60]) = false ∧ (s.toList == [60, 61]) = false ∧ (s.toList == [62]) = false ∧ (s.toList == [62, 61]) = false) ∨
    ((s.toList == [61, 61]) = false ∧ (s.toList == [33, 61]) = true ∧ (s.toList == [60]) = false ∧ (s.toList == [60, 61]) = false ∧ (s.toList == [62]) = false ∧ (s.toList == [62, 61]) = false) ∨
    ((s.toList == [61, 61]) = false ∧ (s.toList == [33, 61]) = false ∧ (s.toList == [60]) = true ∧ (s.toList == [60, 61]) = false ∧ (s.toList == [62]) = false ∧ (s.toList == [62, 61]) = false) ∨
    ((s.toList == [61, 61]) = false ∧ (s.toList == [33, 61]) = false ∧ (s.toList == [60]) = false ∧ (s.toList == [60, 61]) = true ∧ (s.toList == [62]) = false ∧ (s.toList == [62, 61]) = false) ∨
    ((s.toList == [61, 61]) = false ∧ (s.toList == [33, 61]) = false ∧ (s.toList == [60]) = false ∧ (s.toList == [60, 61]) = false ∧ (s.toList == [62]) = true ∧ (s.toList == [62, 61]) = false) ∨
    ((s.toList == [61, 61]) = false ∧ (s.toList == [33, 61]) = false ∧ (s.toList == [60]) = false ∧ (s.toList == [60, 61]) = false ∧ (s.toList == [62]) = false ∧ (s.toList == [62, 61]) = true) ∨
    ((s.toList == [61, 61]) = false ∧ (s.toList == [33, 61]) = false ∧ (s.toList == [60]) = false ∧ (s.toList == [60, 61]) = false ∧ (s.toList == [62]) = false ∧ (s.toList == [62, 61]) = false) := by
  cases h0 : (s.toList == [61, 61]) with
  | true =>
    have e : s.toList = [61, 61] := by simpa using h0
    left
    first | decide | (rw [e]; decide)
  | false =>
  cases h1 : (s.toList == [33, 61]) with
  | true =>
    have e : s.toList = [33, 61] := by simpa using h1
    right; left
    first | decide | (rw [e]; decide)
  | false =>
  cases h2 : (s.toList == [60]) with
  | true =>
    have e : s.toList = [60] := by simpa using h2
    right; right; left
    first | decide | (rw [e]; decide)
  | false =>
  cases h3 : (s.toList == [60, 61]) with
  | true =>
    have e : s.toList = [60, 61] := by simpa using h3
    right; right; right; left
    first | decide | (rw [e]; decide)
  | false =>
  cases h4 : (s.toList == [62]) with
  | true =>
    have e : s.toList = [62] := by simpa using h4
    right; right; right; right; left
    first | decide | (rw [e]; decide)
  | false =>
  cases h5 : (s.toList == [62, 61]) with
  | true =>
    have e : s.toList = [62, 61] := by simpa using h5
    right; right; right; right; right; left
    first | decide | (rw [e]; decide)
  | false =>
  right; right; right; right; right; right
  exact ⟨rfl, rfl, rfl, rfl, rfl, rfl⟩
theorem cmp_three (x y : V) : cmpV x y = -1 ∨ cmpV x y = 0 ∨ cmpV x y = 1 := by
  exact (ord_value x y x).rng

set_option maxRecDepth 100000 in
set_option maxHeartbeats 8000000 in
theorem refTest_any (s : ByteArray) (x y : V) (B : Nat) (w : World) (c0 c1 c2 c3 d0 d1 d2 d3 : Value) (hB : B ≤ w.heap.size) (hx : RepV B w x c0 c1 c2 c3) (hy : RepV B w y d0 d1 d2 d3) :
    Calls Tryd.prog 13 #[.string s, .agg #[c0, c1, c2, c3], .agg #[d0, d1, d2, d3]] w fun e w' => e = .returned (.bool (testB s x y)) ∧ Below w.heap.size w w' := by
  have HX := Lib.hid hx; have HY := Lib.hid hy
  obtain ⟨fa, fc, rfl, rfl, rfl, rfl⟩ := hx.form
  obtain ⟨ga, gc, rfl, rfl, rfl, rfl⟩ := hy.form
  clear hx hy
  go_enter Tryd.func13, Tryd.ntmps13
  go_wp2_with fail
  have x1 := boxed_new w (.int .i64 x.kind) (.int .i64 x.num) (.string x.text) (.slice fa x.list.length fc)
  have b1 := (Below.refl _ w).alloc (Nat.le_refl _) (.cells #[.int .i64 x.kind, .int .i64 x.num, .string x.text, .slice fa x.list.length fc] 24)
  have s1 := World.size_alloc w (.cells #[.int .i64 x.kind, .int .i64 x.num, .string x.text, .slice fa x.list.length fc] 24)
  generalize w.alloc (.cells #[.int .i64 x.kind, .int .i64 x.num, .string x.text, .slice fa x.list.length fc] 24) = w1 at *
  have y2 := boxed_new w1 (.int .i64 y.kind) (.int .i64 y.num) (.string y.text) (.slice ga y.list.length gc)
  have b2 := (Below.refl _ w1).alloc (Nat.le_refl _) (.cells #[.int .i64 y.kind, .int .i64 y.num, .string y.text, .slice ga y.list.length gc] 24)
  generalize w1.alloc (.cells #[.int .i64 y.kind, .int .i64 y.num, .string y.text, .slice ga y.list.length gc] 24) = w2 at *
  rw [s1] at y2
  have B2 := Lib.hid (Below.step b1 b2); have X2 := Lib.hid (x1.on b2); have Y2 := Lib.hid y2
  clear x1 b1 b2 s1 y2
  refine (refRight_any x B _ _ _ _ _ (Nat.le_trans hB B2.out.size) (RepV.on B2.out hB HX.out)).mono ?_
  rintro e w3 ⟨rfl, b3⟩
  have B3 := Lib.hid (Below.step B2.out b3); have X3 := Lib.hid (X2.out.on b3); have Y3 := Lib.hid (Y2.out.on b3)
  obtain ⟨q0, q1, q2, q3⟩ := Y3.out.cells
  clear b3 B2 X2 Y2
  go_wp2_with fail
  refine (refRight_any y B _ _ _ _ _ (Nat.le_trans hB B3.out.size) (RepV.on B3.out hB HY.out)).mono ?_
  rintro e w4 ⟨rfl, b4⟩
  have B4 := Lib.hid (Below.step B3.out b4); have X4 := Lib.hid (X3.out.on b4); have Y4 := Lib.hid (Y3.out.on b4)
  clear b4 B3 X3 Y3 q0 q1 q2 q3
  have HT : Hid (testB s x y = (rightV 4 x && rightV 4 y && tstZ s (cmpV x y))) := by show _ = _; rfl
  have HC := Lib.hid (refCmp_any x y)
  have HC3 := Lib.hid (cmp_three x y)
  generalize rightV 4 x = p at *
  generalize rightV 4 y = q at *
  cases p with
  | false =>
    go_wp2_with fail
    go_ret
    exact ⟨retBool (by rw [HT.out]; rfl), B4.out⟩
  | true =>
  cases q with
  | false =>
    go_wp2_with fail
    go_ret
    exact ⟨retBool (by rw [HT.out]; rfl), B4.out⟩
  | true =>
  obtain ⟨r0, r1, r2, r3⟩ := X4.out.cells
  obtain ⟨q0, q1, q2, q3⟩ := Y4.out.cells
  clear X4 Y4
  go_wp2_with fail
  refine (HC.out B _ _ _ _ _ _ _ _ _ (Nat.le_trans hB B4.out.size) (RepV.on B4.out hB HX.out) (RepV.on B4.out hB HY.out)).mono ?_
  rintro e w5 ⟨rfl, b5⟩
  have B5 := Lib.hid (Below.step B4.out b5)
  clear b5 B4 HC r0 r1 r2 r3 q0 q1 q2 q3
  generalize cmpV x y = c at *
  have hc := HC3.out
  clear HC3
  rcases tst_facts s with ⟨h0, h1, h2, h3, h4, h5⟩ | ⟨h0, h1, h2, h3, h4, h5⟩ | ⟨h0, h1, h2, h3, h4, h5⟩ | ⟨h0, h1, h2, h3, h4, h5⟩ | ⟨h0, h1, h2, h3, h4, h5⟩ | ⟨h0, h1, h2, h3, h4, h5⟩ | ⟨h0, h1, h2, h3, h4, h5⟩
  all_goals
    have HZ : Hid (testB s x y = tstZ s c) := by show _ = _; rw [HT.out]; rfl
    clear HT
    unfold tstZ at HZ
    rw [h0, h1, h2, h3, h4, h5] at HZ
    rcases hc with rfl | rfl | rfl
    all_goals
      go_wp2_with fail
      go_ret
      exact ⟨retBool (by rw [HZ.out]; decide), B5.out⟩

end Go.Proofs.YtaomlkglodeaoaaDoor

/-
  A region that draws its order, by facts that stand: each operation, whenever it comes up, makes its own fact and leaves the others' as they are.
-/
namespace Go.Proofs.YtaomlkglodeaoaaDoor
open Go

theorem countP_lt {p q : Nat → Bool} {i : Nat} (hpq : ∀ j, q j = true → p j = true) (hp : p i = true) (hq : q i = false) : ∀ l : List Nat, i ∈ l → l.countP q < l.countP p
  | [], hi => by cases hi
  | x :: l, hi => by
    rw [List.countP_cons, List.countP_cons]
    have hle : l.countP q ≤ l.countP p := List.countP_mono_left (fun j _ => hpq j)
    by_cases e : x = i
    · subst e; rw [hp, hq]; simp; omega
    · have hm : i ∈ l := by
        rcases List.mem_cons.1 hi with h | h
        · exact absurd h.symm e
        · exact h
      have := countP_lt hpq hp hq l hm
      have h2 : (if q x = true then 1 else 0) ≤ (if p x = true then 1 else 0) := by
        by_cases h : q x = true
        · rw [if_pos h, if_pos (hpq x h)]; exact Nat.le_refl _
        · rw [if_neg h]; omega
      omega

section
variable {P : Program} {ops : Array Oper} {Q : Exit → Act → World → Prop} {md : Region.Mode}

theorem getD_lt {listed : Array Bool} {i : Nat} (h : listed.getD i true = false) : i < listed.size := by
  rcases Nat.lt_or_ge i listed.size with h' | h'
  · exact h'
  · simp [Array.getElem?_eq_none h'] at h

theorem wpAny_inv (J : Array Bool → Act → World → Prop)
    (hstep : ∀ listed a w i, J listed a w → i ∈ Region.ready md ops listed → wpOp P ops Q i (fun a' w' => J (listed.setIfInBounds i true) a' w') a w)
    (hend : ∀ listed a w, J listed a w → Region.ready md ops listed = [] → Q .normal a w) :
    ∀ (fuel : Nat) (listed : Array Bool) (a : Act) (w : World), (List.range ops.size).countP (fun j => !listed.getD j true) ≤ fuel → J listed a w → wpAny P md ops Q fuel listed a w
  | 0, listed, a, w, hc, hJ => by
    have hr : Region.ready md ops listed = [] := by
      apply List.eq_nil_iff_forall_not_mem.2
      intro i hi
      obtain ⟨h1, o, ho, -⟩ := mem_ready.1 hi
      have : 0 < (List.range ops.size).countP (fun j => !listed.getD j true) := List.countP_pos_iff.2 ⟨i, List.mem_range.2 (Array.getElem?_eq_some_iff.1 ho).1, by rw [h1]; rfl⟩
      omega
    exact ⟨hr, hend _ _ _ hJ hr⟩
  | fuel + 1, listed, a, w, hc, hJ => by
    refine ⟨hend _ _ _ hJ, fun i hi => wpOp_mono (fun a' w' h => wpAny_inv J hstep hend fuel _ a' w' ?_ h) (hstep _ _ _ _ hJ hi)⟩
    obtain ⟨h1, o, ho, -⟩ := mem_ready.1 hi
    have hin := getD_lt h1
    have := countP_lt (p := fun j => !listed.getD j true) (q := fun j => !(listed.setIfInBounds i true).getD j true) (i := i) (fun j hj => by
        by_cases e : i = j
        · subst e; simp [h1]
        · rw [getD_set_ne true e] at hj; exact hj) (by simp [h1]) (by simp [hin]) _ (List.mem_range.2 (Array.getElem?_eq_some_iff.1 ho).1)
    omega

theorem none_listed (m j : Nat) : (Array.replicate m false).getD j false = false := by
  rcases Nat.lt_or_ge j m with h | h
  · simp [h]
  · simp [h]
/-- a differs from b at the operations' results alone. -/
structure Off (ops : Array Oper) (b a : Act) : Prop where
  same : a.defers = b.defers
  size : a.tmps.size = b.tmps.size
  off : ∀ k, (∀ (i : Nat) (o : Oper), ops[i]? = some o → o.dst ≠ some k) → a.tmps[k]? = b.tmps[k]?
theorem Off.refl (ops : Array Oper) (a : Act) : Off ops a a := ⟨rfl, rfl, fun _ _ => rfl⟩
theorem Off.put {b a : Act} (h : Off ops b a) {i : Nat} {o : Oper} {d : Tmp} (ho : ops[i]? = some o) (hd : o.dst = some d) (v : Value) : Off ops b (a.put (some d) v) :=
  ⟨h.same, by show (a.tmps.setIfInBounds d v).size = _; rw [Array.size_setIfInBounds]; exact h.size, fun k hk => by
    have hne : d ≠ k := fun e => hk i o ho (by rw [hd, e])
    show (a.tmps.setIfInBounds d v)[k]? = _
    rw [Array.getElem?_setIfInBounds, if_neg hne]
    exact h.off k hk⟩

/-- No operation waits for another one's guard, each has a result of its own, and each waits for earlier ones alone. -/
def okOps (ops : Array Oper) (n : Nat) : Bool :=
  (List.range ops.size).all fun i => match ops[i]? with
    | none => true
    | some o => o.guard.isNone && (match o.dst with | some d => decide (d < n) | none => false) && o.after.all (fun e => decide (e.on < i)) &&
      (List.range ops.size).all fun j => j == i || (match ops[j]? with | some o' => !(o'.dst == o.dst) | none => true)
theorem okOps.at {n i : Nat} {o : Oper} (h : okOps ops n = true) (ho : ops[i]? = some o) : o.guard = none ∧ (∃ d, o.dst = some d ∧ d < n) ∧ (∀ e ∈ o.after, e.on < i) ∧ ∀ j o', ops[j]? = some o' → j ≠ i → o'.dst ≠ o.dst := by
  unfold okOps at h
  rw [List.all_eq_true] at h
  have h1 := h i (List.mem_range.2 (Array.getElem?_eq_some_iff.1 ho).1)
  rw [ho] at h1
  simp only [Bool.and_eq_true] at h1
  obtain ⟨⟨⟨g1, g2⟩, g3⟩, g4⟩ := h1
  refine ⟨Option.isNone_iff_eq_none.1 g1, ?_, ?_, ?_⟩
  · split at g2
    · rename_i d hd; exact ⟨d, hd, of_decide_eq_true g2⟩
    · cases g2
  · intro e he
    exact of_decide_eq_true (Array.all_eq_true_iff_forall_mem.1 g3 e he)
  · intro j o' hj hne he
    rw [List.all_eq_true] at g4
    have h2 := g4 j (List.mem_range.2 (Array.getElem?_eq_some_iff.1 hj).1)
    rw [hj] at h2
    simp [hne, he] at h2

/-- What is asked of one operation. -/
def StepOf (P : Program) (md : Region.Mode) (ops : Array Oper) (A : Act) (F : World → Nat → Value → Prop) (G : World → Prop) (Q : Exit → Act → World → Prop) (i : Nat) (o : Oper) : Prop :=
  ∀ (a : Act) (w : World), Off ops A a → G w →
    (∀ (j : Nat) (o' : Oper) (d : Tmp), (o.after.any fun e => Region.binds md e && e.on == j) = true → ops[j]? = some o' → o'.dst = some d → ∃ v, a.tmps[d]? = some v ∧ F w j v) →
    ∀ K : Act → World → Prop, Shut (∀ v w', G w' → F w' i v → (∀ j u, F w j u → F w' j u) → K (a.put o.dst v) w') → Oper.wp P o a w K Q
def Steps (P : Program) (md : Region.Mode) (ops : Array Oper) (A : Act) (F : World → Nat → Value → Prop) (G : World → Prop) (Q : Exit → Act → World → Prop) : Nat → List Oper → Prop
  | _, [] => True
  | i, o :: os => StepOf P md ops A F G Q i o ∧ Steps P md ops A F G Q (i + 1) os
theorem Steps.at {A : Act} {F : World → Nat → Value → Prop} {G : World → Prop} : ∀ (os : List Oper) (k i : Nat) (o : Oper), Steps P md ops A F G Q k os → os[i]? = some o → StepOf P md ops A F G Q (k + i) o
  | [], _, _, _, _, h => by simp at h
  | x :: os, k, 0, o, hs, h => by simp at h; subst h; exact hs.1
  | x :: os, k, i + 1, o, hs, h => by
    have := Steps.at os (k + 1) i o hs.2 (by simpa using h)
    rw [show k + (i + 1) = k + 1 + i by omega]; exact this

theorem wp_region_facts {id : Nat} {A : Act} {w : World} (hm : P.follows .mixedOrders = true) (n : Nat) (hn : A.tmps.size = n) (hok : okOps ops n = true) (F : World → Nat → Value → Prop) (G : World → Prop) (hG : G w.drew)
    (hsteps : Steps P .any ops A F G Q 0 ops.toList)
    (hend : ∀ a w, Off ops A a → G w → (∀ (i : Nat) (o : Oper) (d : Tmp), ops[i]? = some o → o.dst = some d → ∃ v, a.tmps[d]? = some v ∧ F w i v) → Q .normal a w) :
    (Code.region id ops true).wp P Q A w := by
  refine wp_region_any hm (wpAny_inv (J := fun listed a w => listed.size = ops.size ∧ Off ops A a ∧ G w ∧ ∀ (i : Nat) (o : Oper) (d : Tmp), ops[i]? = some o → o.dst = some d → listed.getD i false = true → ∃ v, a.tmps[d]? = some v ∧ F w i v) ?_ ?_ _ _ _ _ ?_ ?_)
  · rintro listed a w i ⟨hsz, hoff, hg, hf⟩ hi
    obtain ⟨h1, o, ho, hall⟩ := mem_ready.1 hi
    obtain ⟨k1, ⟨d, k2, k3⟩, -, k4⟩ := okOps.at hok ho
    have hin := getD_lt h1
    have hst := Steps.at ops.toList 0 i o hsteps (by simpa using ho)
    rw [Nat.zero_add] at hst
    unfold wpOp
    rw [ho]
    simp only
    rw [if_pos (by unfold Region.wanted; rw [k1])]
    refine .inl (hst a w hoff hg (fun j o' d' hj ho' hd' => ?_) _ fun v w' hg' hf' hstay => ?_)
    · obtain ⟨e, he, hb⟩ := Array.any_eq_true'.1 hj
      simp only [Bool.and_eq_true, beq_iff_eq] at hb
      exact hf j o' d' ho' hd' (by rw [← hb.2]; exact hall e he hb.1)
    · rw [k2]
      refine ⟨by rw [Array.size_setIfInBounds]; exact hsz, hoff.put ho k2 v, hg', fun j o' d' ho' hd' hl => ?_⟩
      by_cases e : j = i
      · subst e
        obtain rfl : o' = o := Option.some.inj (ho'.symm.trans ho)
        obtain rfl : d' = d := Option.some.inj (hd'.symm.trans k2)
        refine ⟨v, ?_, hf'⟩
        show (a.tmps.setIfInBounds d' v)[d']? = _
        rw [Array.getElem?_setIfInBounds, if_pos rfl, if_pos (by rw [hoff.size, hn]; exact k3)]
      · rw [getD_set_ne false (fun h => e h.symm)] at hl
        obtain ⟨u, hu, hF⟩ := hf j o' d' ho' hd' hl
        refine ⟨u, ?_, hstay j u hF⟩
        have hne : d ≠ d' := fun h => k4 j o' ho' e (by rw [hd', k2, h])
        show (a.tmps.setIfInBounds d v)[d']? = _
        rw [Array.getElem?_setIfInBounds, if_neg hne]; exact hu
  · rintro listed a w ⟨hsz, hoff, hg, hf⟩ hr
    refine hend a w hoff hg fun i o d ho hd => hf i o d ho hd ?_
    have all : ∀ i, i < ops.size → listed.getD i false = true := by
      intro i
      induction i using Nat.strongRecOn with
      | _ i ih =>
        intro hi
        cases hl : listed.getD i true with
        | true => simpa [hsz, hi] using hl
        | false =>
          have ho : ops[i]? = some ops[i] := Array.getElem?_eq_getElem hi
          have : i ∈ Region.ready .any ops listed := mem_ready.2 ⟨hl, ops[i], ho, fun e he _ => ih e.on ((okOps.at hok ho).2.2.1 e he) (Nat.lt_trans ((okOps.at hok ho).2.2.1 e he) hi)⟩
          rw [hr] at this; cases this
    exact all i (Array.getElem?_eq_some_iff.1 ho).1
  · exact Nat.le_trans List.countP_le_length (by simp)
  · exact ⟨by simp, Off.refl _ _, hG, fun i o d _ _ hl => by rw [none_listed] at hl; cases hl⟩

/-- The state behind the region, written out. -/
theorem sets_eq : ∀ (dvs : List (Nat × Value)) (x b : Array Value), x.size = b.size → (∀ k, k ∉ dvs.map (·.1) → x[k]? = b[k]?) → (∀ p ∈ dvs, x[p.1]? = some p.2) → x = dvs.foldl (fun y p => y.setIfInBounds p.1 p.2) b
  | [], x, b, _, h, _ => by
    apply Array.ext_getElem?
    intro k; exact h k (by simp)
  | p :: dvs, x, b, hs, h, hv => by
    rw [List.foldl_cons]
    refine sets_eq dvs x _ (by rw [Array.size_setIfInBounds]; exact hs) (fun k hk => ?_) (fun q hq => hv q (List.mem_cons_of_mem _ hq))
    rw [Array.getElem?_setIfInBounds]
    by_cases e : p.1 = k
    · subst e
      have h1 := hv p (by simp)
      rw [if_pos rfl, if_pos (by rw [← hs]; exact (Array.getElem?_eq_some_iff.1 h1).1)]
      exact h1
    · rw [if_neg e]
      exact h k (by simp only [List.map_cons, List.mem_cons, not_or]; exact ⟨fun h => e h.symm, hk⟩)
theorem Off.sets {b a : Act} (h : Off ops b a) (dvs : List (Nat × Value)) (hd : (ops.toList.all fun o => match o.dst with | some d => (dvs.map (·.1)).contains d | none => true) = true) (hv : ∀ p ∈ dvs, a.tmps[p.1]? = some p.2) :
    a = { b with tmps := dvs.foldl (fun y p => y.setIfInBounds p.1 p.2) b.tmps } := by
  cases a with
  | mk t ds =>
    have e1 : ds = b.defers := h.same
    subst e1
    congr 1
    refine sets_eq dvs t b.tmps h.size (fun k hk => h.off k fun i o ho hdk => hk ?_) hv
    rw [List.all_eq_true] at hd
    have := hd o (by rw [Array.mem_toList_iff]; exact Array.mem_of_getElem? ho)
    rw [hdk] at this
    simpa using this
end
end Go.Proofs.YtaomlkglodeaoaaDoor

/-
  BuiltinTells: for every name, arguments, op, values, raw list and number the law returns true: functions, reckoning and comparing are as the document says.
-/
namespace Go.Proofs.YtaomlkglodeaoaaDoor.builtinTells
open Go.ChangeShapes Go.WideShapes Go.ChangeAt Go.RowKit

/-- All blocks but two stand. -/
structure Keep (p q : Nat) (w w' : World) : Prop where
  os : w'.os = w.os
  tape : w'.tape = w.tape
  output : w'.output = w.output
  size : w.heap.size ≤ w'.heap.size
  block : ∀ k, k < w.heap.size → k ≠ p → k ≠ q → w'.heap[k]? = w.heap[k]?
theorem Keep.refl (p q : Nat) (w : World) : Keep p q w w := ⟨rfl, rfl, rfl, Nat.le_refl _, fun _ _ _ _ => rfl⟩
theorem Keep.step {p q : Nat} {a w w' : World} (h : Keep p q a w) (hb : Below w.heap.size w w') : Keep p q a w' :=
  ⟨hb.os.trans h.os, hb.tape.trans h.tape, hb.output.trans h.output, Nat.le_trans h.size hb.size, fun k hk h1 h2 => (hb.block k (Nat.lt_of_lt_of_le hk h.size)).trans (h.block k hk h1 h2)⟩
theorem Keep.store {p q : Nat} {a w : World} (h : Keep p q a w) (k j : Nat) (hk : k = p ∨ k = q) (c : Value) : Keep p q a (w.setCell ⟨k, j, none⟩ c) :=
  ⟨h.os, h.tape, h.output, by rw [World.size_setCell]; exact h.size, fun i hi h1 h2 => (Below.heap_setCell _ _ _ _ (by show i ≠ k; rcases hk with rfl | rfl <;> assumption)).trans (h.block i hi h1 h2)⟩
theorem Keep.store4 {p q : Nat} {a w : World} (h : Keep p q a w) (k : Nat) (hk : k = p ∨ k = q) (c0 c1 c2 c3 : Value) : Keep p q a ((((w.setCell ⟨k, 0, none⟩ c0).setCell ⟨k, 1, none⟩ c1).setCell ⟨k, 2, none⟩ c2).setCell ⟨k, 3, none⟩ c3) :=
  (((h.store k 0 hk c0).store k 1 hk c1).store k 2 hk c2).store k 3 hk c3
theorem Keep.below {p q B : Nat} {a w : World} (h : Keep p q a w) (hB : B ≤ a.heap.size) (hp : B ≤ p) (hq : B ≤ q) : Below B a w :=
  ⟨h.os, h.tape, h.output, h.size, fun k hk => h.block k (by omega) (by omega) (by omega)⟩
theorem heap_four {w : World} {k j : Nat} (hj : j ≠ k) (c0 c1 c2 c3 : Value) : ((((w.setCell ⟨k, 0, none⟩ c0).setCell ⟨k, 1, none⟩ c1).setCell ⟨k, 2, none⟩ c2).setCell ⟨k, 3, none⟩ c3).heap[j]? = w.heap[j]? := by
  rw [Below.heap_setCell _ _ _ _ (by simpa using hj), Below.heap_setCell _ _ _ _ (by simpa using hj), Below.heap_setCell _ _ _ _ (by simpa using hj), Below.heap_setCell _ _ _ _ (by simpa using hj)]
theorem size_four {w : World} {k : Nat} (c0 c1 c2 c3 : Value) : ((((w.setCell ⟨k, 0, none⟩ c0).setCell ⟨k, 1, none⟩ c1).setCell ⟨k, 2, none⟩ c2).setCell ⟨k, 3, none⟩ c3).heap.size = w.heap.size := by simp [World.setCell]
theorem boxed_four {w : World} {k : Nat} {d0 d1 d2 d3 : Value} (h : Boxed w k d0 d1 d2 d3) (c0 c1 c2 c3 : Value) : Boxed ((((w.setCell ⟨k, 0, none⟩ c0).setCell ⟨k, 1, none⟩ c1).setCell ⟨k, 2, none⟩ c2).setCell ⟨k, 3, none⟩ c3) k c0 c1 c2 c3 :=
  heap_setCell_same _ _ _ _ _ _ (heap_setCell_same _ _ _ _ _ _ (heap_setCell_same _ _ _ _ _ _ (heap_setCell_same _ _ _ _ _ _ h)))
theorem RepG.rise {lo : Nat} {w w' : World} (hb : Below w.heap.size w w') {x : V} {c0 c1 c2 c3 : Value} (h : RepG (fun b => lo ≤ b ∧ b < w.heap.size) w x c0 c1 c2 c3) : RepG (fun b => lo ≤ b ∧ b < w'.heap.size) w' x c0 c1 c2 c3 :=
  RepG.on (fun _ hk => ⟨hk.1, Nat.lt_of_lt_of_le hk.2 hb.size⟩) (fun k hk => hb.block k hk.2) x h

theorem three_new (w : World) (a b c : Obj) : ((((w.alloc a).alloc b).alloc c).heap[w.heap.size]? = some a ∧ (((w.alloc a).alloc b).alloc c).heap[w.heap.size + 1]? = some b ∧ (((w.alloc a).alloc b).alloc c).heap[w.heap.size + 1 + 1]? = some c) ∧ (((w.alloc a).alloc b).alloc c).heap.size = w.heap.size + 1 + 1 + 1 := by
  have sA : (w.alloc a).heap.size = w.heap.size + 1 := World.size_alloc _ _
  have sB : ((w.alloc a).alloc b).heap.size = w.heap.size + 1 + 1 := by rw [World.size_alloc, sA]
  have nA : (w.alloc a).heap[w.heap.size]? = some a := alloc_new' _ _
  have nB : ((w.alloc a).alloc b).heap[w.heap.size + 1]? = some b := by rw [← sA]; exact alloc_new' _ _
  have nC : (((w.alloc a).alloc b).alloc c).heap[w.heap.size + 1 + 1]? = some c := by rw [← sB]; exact alloc_new' _ _
  refine ⟨⟨?_, ?_, nC⟩, by rw [World.size_alloc, sB]⟩
  · rw [Below.heap_alloc _ _ _ (by rw [sB]; omega), Below.heap_alloc _ _ _ (by rw [sA]; omega)]; exact nA
  · rw [Below.heap_alloc _ _ _ (by rw [sB]; omega)]; exact nB
theorem row_one {lo : Nat} {w : World} {b : Nat} {x : V} {c0 c1 c2 c3 : Value} (hb : w.heap[b]? = some (.cells #[c0, c1, c2, c3] 24 (0, 0))) (hl : lo ≤ b) (hx : RepG (fun k => lo ≤ k ∧ k < w.heap.size) w x c0 c1 c2 c3) : RepLG (fun k => lo ≤ k ∧ k < w.heap.size) w [x] (.slice (some ⟨b, 0, none⟩) 1 1) := by
  have hr : RepRow (fun k => lo ≤ k ∧ k < w.heap.size) w [x] #[c0, c1, c2, c3] := by
    intro i hi
    obtain rfl : i = 0 := by simpa using hi
    exact ⟨c0, c1, c2, c3, rfl, rfl, rfl, rfl, hx⟩
  exact hr.slice hb ⟨hl, (Array.getElem?_eq_some_iff.1 hb).1⟩ (Nat.le_refl _) (by simp)
theorem row_two {lo : Nat} {w : World} {b : Nat} {x y : V} {c0 c1 c2 c3 d0 d1 d2 d3 : Value} (hb : w.heap[b]? = some (.cells #[c0, c1, c2, c3, d0, d1, d2, d3] 24 (0, 0))) (hl : lo ≤ b) (hx : RepG (fun k => lo ≤ k ∧ k < w.heap.size) w x c0 c1 c2 c3) (hy : RepG (fun k => lo ≤ k ∧ k < w.heap.size) w y d0 d1 d2 d3) : RepLG (fun k => lo ≤ k ∧ k < w.heap.size) w [x, y] (.slice (some ⟨b, 0, none⟩) 2 2) := by
  have hr : RepRow (fun k => lo ≤ k ∧ k < w.heap.size) w [x, y] #[c0, c1, c2, c3, d0, d1, d2, d3] := by
    intro i hi
    match i, hi with
    | 0, _ => exact ⟨c0, c1, c2, c3, rfl, rfl, rfl, rfl, hx⟩
    | 1, _ => exact ⟨d0, d1, d2, d3, rfl, rfl, rfl, rfl, hy⟩
  exact hr.slice hb ⟨hl, (Array.getElem?_eq_some_iff.1 hb).1⟩ (Nat.le_refl _) (by simp)
/-- The k-th row of arguments. -/
def Row (lo : Nat) (w : World) (b k : Nat) : Prop := ∃ (r : Value) (args : List V), w.cell? ⟨b, k, none⟩ = some r ∧ RepLG (fun k => lo ≤ k ∧ k < w.heap.size) w args r
theorem rows_new {lo p : Nat} {w : World} {x y z : V} {x0 x1 x2 x3 y0 y1 y2 y3 z0 z1 z2 z3 : Value} (t : TypeId) (hp : lo ≤ p) (hw : lo ≤ w.heap.size)
    (h1 : w.heap[p]? = some (.cells #[x0, x1, x2, x3] 24 (0, 0))) (h2 : w.heap[p + 1]? = some (.cells #[x0, x1, x2, x3, y0, y1, y2, y3] 24 (0, 0))) (h3 : w.heap[p + 1 + 1]? = some (.cells #[y0, y1, y2, y3, x0, x1, x2, x3] 24 (0, 0)))
    (hx : RepG (fun k => lo ≤ k ∧ k < w.heap.size) w x x0 x1 x2 x3) (hy : RepG (fun k => lo ≤ k ∧ k < w.heap.size) w y y0 y1 y2 y3) (hz : RepG (fun k => lo ≤ k ∧ k < w.heap.size) w z z0 z1 z2 z3) (W : World)
    (hW : W = ((w.alloc (.cells #[x0, x1, x2, x3, z0, z1, z2, z3] 24)).alloc (.cells #[y0, y1, y2, y3] 24)).alloc (.cells #[.slice (some ⟨p, 0, none⟩) 1 1, .slice (some ⟨p + 1, 0, none⟩) 2 2, .slice (some ⟨p + 1 + 1, 0, none⟩) 2 2, .slice (some ⟨w.heap.size, 0, none⟩) 2 2, .slice (some ⟨w.heap.size + 1, 0, none⟩) 1 1] t)) :
    Below w.heap.size w W ∧ ∀ k, k < 5 → Row lo W (w.heap.size + 1 + 1) k := by
  have hb : Below w.heap.size w W := by rw [hW]; exact Below.step (Below.step (stands_alloc _ _) (stands_alloc _ _)) (stands_alloc _ _)
  obtain ⟨⟨n4, n5, n6⟩, -⟩ := three_new w (.cells #[x0, x1, x2, x3, z0, z1, z2, z3] 24) (.cells #[y0, y1, y2, y3] 24) (.cells #[.slice (some ⟨p, 0, none⟩) 1 1, .slice (some ⟨p + 1, 0, none⟩) 2 2, .slice (some ⟨p + 1 + 1, 0, none⟩) 2 2, .slice (some ⟨w.heap.size, 0, none⟩) 2 2, .slice (some ⟨w.heap.size + 1, 0, none⟩) 1 1] t)
  rw [← hW] at n4 n5 n6
  have lt {k : Nat} {o : Obj} (h : w.heap[k]? = some o) : k < w.heap.size := (Array.getElem?_eq_some_iff.1 h).1
  have g1 := (hb.block _ (lt h1)).trans h1
  have g2 := (hb.block _ (lt h2)).trans h2
  have g3 := (hb.block _ (lt h3)).trans h3
  have rx := RepG.rise hb hx
  have ry := RepG.rise hb hy
  have rz := RepG.rise hb hz
  refine ⟨hb, fun k hk => ?_⟩
  match k, hk with
  | 0, _ => exact ⟨_, _, cell_of_block' n6 _ rfl, row_one g1 hp rx⟩
  | 1, _ => exact ⟨_, _, cell_of_block' n6 _ rfl, row_two g2 (by omega) rx ry⟩
  | 2, _ => exact ⟨_, _, cell_of_block' n6 _ rfl, row_two g3 (by omega) ry rx⟩
  | 3, _ => exact ⟨_, _, cell_of_block' n6 _ rfl, row_two n4 hw rx rz⟩
  | 4, _ => exact ⟨_, _, cell_of_block' n6 _ rfl, row_one n5 (by omega) ry⟩

def RowV (lo : Nat) (w : World) (v : Value) : Prop := (∃ b n : Nat, v = .slice (some ⟨b, 0, none⟩) n n) ∧ ∃ args, RepLG (fun k => lo ≤ k ∧ k < w.heap.size) w args v
/-- What stands of each operation's result in the region that lays the rows. -/
def Fct (lo : Nat) (l c m : V) (faL : Option Addr) (fcL : Nat) (faC : Option Addr) (fcC : Nat) (aa : Value) (w : World) (i : Nat) (v : Value) : Prop :=
  match i with
  | 0 => v = .agg #[.int .i64 l.kind, .int .i64 l.num, .string l.text, .slice faL l.list.length fcL] | 2 => v = .agg #[.int .i64 l.kind, .int .i64 l.num, .string l.text, .slice faL l.list.length fcL] | 6 => v = .agg #[.int .i64 l.kind, .int .i64 l.num, .string l.text, .slice faL l.list.length fcL] | 8 => v = .agg #[.int .i64 l.kind, .int .i64 l.num, .string l.text, .slice faL l.list.length fcL]
  | 3 => v = .agg #[.int .i64 c.kind, .int .i64 c.num, .string c.text, .slice faC c.list.length fcC] | 5 => v = .agg #[.int .i64 c.kind, .int .i64 c.num, .string c.text, .slice faC c.list.length fcC] | 12 => v = .agg #[.int .i64 c.kind, .int .i64 c.num, .string c.text, .slice faC c.list.length fcC]
  | 9 => v = aa
  | 1 => RowV lo w v | 4 => RowV lo w v | 7 => RowV lo w v | 11 => RowV lo w v | 13 => RowV lo w v
  | 10 => ∃ (faM : Option Addr) (fcM : Nat), v = .agg #[.int .i64 m.kind, .int .i64 m.num, .string m.text, .slice faM m.list.length fcM] ∧ RepG (fun k => lo ≤ k ∧ k < w.heap.size) w m (.int .i64 m.kind) (.int .i64 m.num) (.string m.text) (.slice faM m.list.length fcM)
  | 14 => ∃ br : Nat, v = .slice (some ⟨br, 0, none⟩) 5 5 ∧ lo ≤ br ∧ ∀ k, k < 5 → Row lo w br k
  | 15 => v = .int .i64 5
  | 16 => v = .int .i64 0
  | _ => True
theorem rise_row {lo : Nat} {w w' : World} (hb : Below w.heap.size w w') {args : List V} {v : Value} (h : RepLG (fun k => lo ≤ k ∧ k < w.heap.size) w args v) : RepLG (fun k => lo ≤ k ∧ k < w'.heap.size) w' args v :=
  RepLG.on (fun _ hk => ⟨hk.1, Nat.lt_of_lt_of_le hk.2 hb.size⟩) (fun k hk => hb.block k hk.2) h
theorem RowV.stay {lo : Nat} {w w' : World} (hb : Below w.heap.size w w') {v : Value} (h : RowV lo w v) : RowV lo w' v := ⟨h.1, by obtain ⟨args, h2⟩ := h.2; exact ⟨args, rise_row hb h2⟩⟩
theorem Row.stay {lo b k : Nat} {w w' : World} (hb : Below w.heap.size w w') (h : Row lo w b k) : Row lo w' b k := by
  obtain ⟨r, args, h1, h2⟩ := h
  exact ⟨r, args, (hb.cell (p := ⟨b, k, none⟩) (cell_lt h1)).trans h1, rise_row hb h2⟩
theorem Fct.stay {lo : Nat} {l c m : V} {faL : Option Addr} {fcL : Nat} {faC : Option Addr} {fcC : Nat} {aa : Value} {w w' : World} (hb : Below w.heap.size w w') {j : Nat} {v : Value} (h : Fct lo l c m faL fcL faC fcC aa w j v) : Fct lo l c m faL fcL faC fcC aa w' j v := by
  unfold Fct at *
  split at h <;> first | exact h | exact RowV.stay hb h | (obtain ⟨fa, fc, h1, h2⟩ := h; exact ⟨fa, fc, h1, RepG.rise hb h2⟩) | (obtain ⟨br, h1, h2, h3⟩ := h; exact ⟨br, h1, h2, fun k hk => (h3 k hk).stay hb⟩)
theorem off_at {ops : Array Oper} {b a : Act} (h : Off ops b a) (k : Nat) {v : Value} (hd : (ops.toList.all fun o => o.dst != some k) = true) (hv : b.tmps[k]? = some v) : a.tmps[k]? = some v :=
  (h.off k fun i o ho he => by
    rw [List.all_eq_true] at hd
    have := hd o (by rw [Array.mem_toList_iff]; exact Array.mem_of_getElem? ho)
    rw [he] at this; simp at this).trans hv

/-- What both calls answer. -/
def CP (S : Nat → Prop) (r : V) (p : Bool) (w : World) (e : Ending) (w' : World) : Prop := ∃ (fa : Option Addr) (fc : Nat), e = .returned (.tuple #[.agg #[.int .i64 r.kind, .int .i64 r.num, .string r.text, .slice fa r.list.length fc], .bool p]) ∧ RepG (fun k => S k ∨ (w.heap.size < k ∧ k < w'.heap.size)) w' r (.int .i64 r.kind) (.int .i64 r.num) (.string r.text) (.slice fa r.list.length fc) ∧ Below w.heap.size w w'
theorem calls_of (f : ByteArray) (args : List V) : ∃ (r : V) (p : Bool),
    (∀ (w : World) (a : Value), RepL w.heap.size w args a → Calls Tryd.prog 5 #[.string f, a] w (CP (fun _ => False) r p w)) ∧
    (∀ (S : Nat → Prop) (w : World) (a : Value), Under S w.heap.size → RepLG S w args a → Calls Tryd.prog 6 #[.string f, a] w (CP S r p w)) := by
  refine ⟨(callV (fnOf f) args).getD zeroV, (callV (fnOf f) args).isSome, fun w a ha => (call_any f args _ w a (Nat.le_refl _) ha).mono ?_, fun S w a hS ha => (refCall_any f args S w a hS ha).mono ?_⟩
  · rintro e w' ⟨c0, c1, c2, c3, rfl, hr, hb⟩
    obtain ⟨fa, fc, rfl, rfl, rfl, rfl⟩ := hr.form
    exact ⟨fa, fc, rfl, RepG.on (fun _ h => .inr h) (fun _ _ => rfl) _ hr, hb⟩
  · rintro e w' ⟨c0, c1, c2, c3, rfl, hr, hb⟩
    obtain ⟨fa, fc, rfl, rfl, rfl, rfl⟩ := hr.form
    exact ⟨fa, fc, rfl, hr, hb⟩
/-- What both ops answer. -/
def OP (fa : Option Addr) (fc : Nat) (r : V) (p : Bool) (w : World) (e : Ending) (w' : World) : Prop := e = .returned (.tuple #[.agg #[.int .i64 r.kind, .int .i64 r.num, .string r.text, .slice fa r.list.length fc], .bool p]) ∧ Below w.heap.size w w'
theorem ops_of (s : ByteArray) (x y : V) : ∃ (r : V) (fa : Option Addr) (fc : Nat) (p : Bool), (∀ w : World, RepV 0 w r (.int .i64 r.kind) (.int .i64 r.num) (.string r.text) (.slice fa r.list.length fc)) ∧
    (∀ (w : World) (c0 c1 c2 c3 d0 d1 d2 d3 : Value), RepV w.heap.size w x c0 c1 c2 c3 → RepV w.heap.size w y d0 d1 d2 d3 → Calls Tryd.prog 7 #[.string s, .agg #[c0, c1, c2, c3], .agg #[d0, d1, d2, d3]] w (OP fa fc r p w)) ∧
    (∀ (w : World) (c0 c1 c2 c3 d0 d1 d2 d3 : Value), RepV w.heap.size w x c0 c1 c2 c3 → RepV w.heap.size w y d0 d1 d2 d3 → Calls Tryd.prog 8 #[.string s, .agg #[c0, c1, c2, c3], .agg #[d0, d1, d2, d3]] w (OP fa fc r p w)) := by
  cases h : opZ s x y with
  | none =>
    refine ⟨zeroV, none, 0, false, fun w => rep_zero, fun w c0 c1 c2 c3 d0 d1 d2 d3 hx hy => (op_any s x y _ w _ _ _ _ _ _ _ _ (Nat.le_refl _) hx hy).mono ?_, fun w c0 c1 c2 c3 d0 d1 d2 d3 hx hy => (refOp_any s x y _ w _ _ _ _ _ _ _ _ (Nat.le_refl _) hx hy).mono ?_⟩
    all_goals
      rw [h]
      rintro e w' ⟨rfl, hb⟩
      exact ⟨rfl, hb⟩
  | some m =>
    have hm : I64 m := by
      have f1 := (op_right h).1
      rw [right_num, Bool.and_eq_true, decide_eq_true_eq, decide_eq_true_eq] at f1
      exact ⟨by omega, by omega⟩
    refine ⟨numV m, none, 0, true, fun w => rep_num hm, fun w c0 c1 c2 c3 d0 d1 d2 d3 hx hy => (op_any s x y _ w _ _ _ _ _ _ _ _ (Nat.le_refl _) hx hy).mono ?_, fun w c0 c1 c2 c3 d0 d1 d2 d3 hx hy => (refOp_any s x y _ w _ _ _ _ _ _ _ _ (Nat.le_refl _) hx hy).mono ?_⟩
    all_goals
      rw [h]
      rintro e w' ⟨rfl, hb⟩
      exact ⟨rfl, hb⟩

set_option maxRecDepth 100000 in
set_option maxHeartbeats 16000000 in
theorem walk (name : ByteArray) (args : List V) (op : ByteArray) (x y : V) (raw : List V) (which : Int) (w0 : World) (aa c0 c1 c2 c3 d0 d1 d2 d3 ar : Value) (htab : TabOk w0) (hwh : I64 which) (hargs : RepL w0.heap.size w0 args aa) (hx : RepV w0.heap.size w0 x c0 c1 c2 c3) (hy : RepV w0.heap.size w0 y d0 d1 d2 d3) (hraw : RepL w0.heap.size w0 raw ar) :
    Calls Tryd.prog 3 #[.string name, aa, .string op, .agg #[c0, c1, c2, c3], .agg #[d0, d1, d2, d3], ar, .int .i64 which] w0 fun e W' => e = .returned (.bool true) ∧ Below w0.heap.size w0 W' := by
  have HX := Lib.hid hx; have HY := Lib.hid hy; have HARGS := Lib.hid hargs; have HRAW := Lib.hid hraw
  have HT := Lib.hid htab
  have hg := tab_lt htab
  obtain ⟨vr, pb, hc1, hc2⟩ := calls_of name args
  have HC1 := Lib.hid hc1; have HC2 := Lib.hid hc2
  obtain ⟨ov, faX, fcX, rb, ho0, ho1, ho2⟩ := ops_of op x y
  have HO0 := Lib.hid ho0; have HO1 := Lib.hid ho1; have HO2 := Lib.hid ho2
  obtain ⟨tb, ht⟩ : ∃ t, testB op x y = t := ⟨_, rfl⟩
  have HTB := Lib.hid ht
  obtain ⟨an, han⟩ : ∃ t, fnArity (fnOf name) = t := ⟨_, rfl⟩
  have HAN := Lib.hid han
  clear hc1 hc2 ho0 ho1 ho2 ht han
  obtain ⟨faA, fcA, rfl, rfl, rfl, rfl⟩ := hx.form
  obtain ⟨faB, fcB, rfl, rfl, rfl, rfl⟩ := hy.form
  obtain ⟨ga, gb, go, gc, rfl, -⟩ := hargs
  obtain ⟨ha, hb', ho, hc, rfl, -⟩ := hraw
  clear hx hy htab
  go_enter Tryd.func3, Tryd.ntmps3
  go_wp2_with fail
  have x1 := boxed_new w0 (.int .i64 x.kind) (.int .i64 x.num) (.string x.text) (.slice faA x.list.length fcA)
  have b1 := stands_alloc w0 (.cells #[.int .i64 x.kind, .int .i64 x.num, .string x.text, .slice faA x.list.length fcA] 24)
  have s1 := World.size_alloc w0 (.cells #[.int .i64 x.kind, .int .i64 x.num, .string x.text, .slice faA x.list.length fcA] 24)
  generalize w0.alloc (.cells #[.int .i64 x.kind, .int .i64 x.num, .string x.text, .slice faA x.list.length fcA] 24) = w1 at *
  have y2 := boxed_new w1 (.int .i64 y.kind) (.int .i64 y.num) (.string y.text) (.slice faB y.list.length fcB)
  have b2 := stands_alloc w1 (.cells #[.int .i64 y.kind, .int .i64 y.num, .string y.text, .slice faB y.list.length fcB] 24)
  generalize w1.alloc (.cells #[.int .i64 y.kind, .int .i64 y.num, .string y.text, .slice faB y.list.length fcB] 24) = w2 at *
  rw [s1] at y2
  have B2 := Lib.hid (Below.step b1 b2)
  have XA2 := Lib.hid (x1.on b2); have XB2 := Lib.hid y2
  clear x1 b1 y2 b2 s1
  refine (awake2_any _ (Nat.lt_of_lt_of_le hg B2.out.size) (HT.out.below hg B2.out)).mono ?_
  rintro e w3 ⟨rfl, hb⟩
  have B3 := Lib.hid (Below.step B2.out hb)
  have XA3 := Lib.hid (XA2.out.on hb)
  have XB3 := Lib.hid (XB2.out.on hb)
  clear B2 XA2 XB2 
  clear hb
  have RA3 := Lib.hid ((RepV.on B3.out (Nat.le_refl _) HX.out).up B3.out.size _); have RB3 := Lib.hid ((RepV.on B3.out (Nat.le_refl _) HY.out).up B3.out.size _)
  clear HX HY
  go_wp2_with fail
  refine (HC1.out _ _ ((RepL.below (fun j hj => B3.out.block j hj) HARGS.out).up B3.out.size)).mono ?_
  rintro e w4 ⟨faV, fcV, rfl, hr, hb⟩
  have NR : Hid (RepV w4.heap.size w4 vr (.int .i64 vr.kind) (.int .i64 vr.num) (.string vr.text) (.slice faV vr.list.length fcV)) := Lib.hid (RepG.on (fun j hj => by rcases hj with h | h; exact h.elim; exact h.2) (fun _ _ => rfl) vr hr)
  have B4 := Lib.hid (Below.step B3.out hb)
  have XA4 := Lib.hid (XA3.out.on hb)
  have XB4 := Lib.hid (XB3.out.on hb)
  have RA4 := Lib.hid ((RepV.on hb (Nat.le_refl _) RA3.out).up (Below.size hb) _)
  have RB4 := Lib.hid ((RepV.on hb (Nat.le_refl _) RB3.out).up (Below.size hb) _)
  clear B3 XA3 XB3 RA3 RB3
  clear hb hr
  have HB4 := Lib.hid B4.out.size
  go_wp2_with fail
  (try rw [← World.size_alloc w4 (.cells #[.int .i64 vr.kind, .int .i64 vr.num, .string vr.text, .slice faV vr.list.length fcV] 24)])
  have XX := boxed_new w4 (.int .i64 vr.kind) (.int .i64 vr.num) (.string vr.text) (.slice faV vr.list.length fcV)
  have hbx := stands_alloc w4 (.cells #[.int .i64 vr.kind, .int .i64 vr.num, .string vr.text, .slice faV vr.list.length fcV] 24)
  generalize w4.alloc (.cells #[.int .i64 vr.kind, .int .i64 vr.num, .string vr.text, .slice faV vr.list.length fcV] 24) = w5 at *
  generalize hbnV : w4.heap.size = bV at XX ⊢
  have HNV := Lib.hid hbnV; clear hbnV
  have RR := Lib.hid ((RepV.on hbx (Nat.le_refl _) NR.out).up (Below.size hbx) _)
  have XN := Lib.hid XX
  have B5 := Lib.hid (Below.step B4.out hbx)
  have XA5 := Lib.hid (XA4.out.on hbx)
  have XB5 := Lib.hid (XB4.out.on hbx)
  have RA5 := Lib.hid ((RepV.on hbx (Nat.le_refl _) RA4.out).up (Below.size hbx) _)
  have RB5 := Lib.hid ((RepV.on hbx (Nat.le_refl _) RB4.out).up (Below.size hbx) _)
  clear B4 XA4 XB4 RA4 RB4
  have XV5 := XN; have RV5 := RR
  clear XX hbx RR XN NR
  have HVV : Hid (w0.heap.size ≤ bV) := by show _ ≤ _; have := HB4.out; have := HNV.out; omega
  refine (HC2.out (fun j => j < w0.heap.size) _ _ ⟨fun j hj => Nat.lt_of_lt_of_le hj B5.out.size⟩ (RepL.below (fun j hj => B5.out.block j hj) HARGS.out)).mono ?_
  rintro e w6 ⟨faU, fcU, rfl, hr, hb⟩
  have NR : Hid (RepV w6.heap.size w6 vr (.int .i64 vr.kind) (.int .i64 vr.num) (.string vr.text) (.slice faU vr.list.length fcU)) := Lib.hid (RepG.on (fun j hj => by rcases hj with h | h; exact Nat.lt_of_lt_of_le h (Nat.le_trans B5.out.size hb.size); exact h.2) (fun _ _ => rfl) vr hr)
  have B6 := Lib.hid (Below.step B5.out hb)
  have XA6 := Lib.hid (XA5.out.on hb)
  have XB6 := Lib.hid (XB5.out.on hb)
  have XV6 := Lib.hid (XV5.out.on hb)
  have RA6 := Lib.hid ((RepV.on hb (Nat.le_refl _) RA5.out).up (Below.size hb) _)
  have RB6 := Lib.hid ((RepV.on hb (Nat.le_refl _) RB5.out).up (Below.size hb) _)
  have RV6 := Lib.hid ((RepV.on hb (Nat.le_refl _) RV5.out).up (Below.size hb) _)
  clear B5 XA5 XB5 XV5 RA5 RB5 RV5
  clear hb hr
  have HB6 := Lib.hid B6.out.size; have HV6 := Lib.hid XV6.out.lt
  obtain ⟨cA0, cA1, cA2, cA3⟩ := (XA6.out.on (stands_alloc w6 (.cells #[.int .i64 vr.kind, .int .i64 vr.num, .string vr.text, .slice faU vr.list.length fcU] 24))).cells
  obtain ⟨cB0, cB1, cB2, cB3⟩ := (XB6.out.on (stands_alloc w6 (.cells #[.int .i64 vr.kind, .int .i64 vr.num, .string vr.text, .slice faU vr.list.length fcU] 24))).cells
  go_wp2_with fail
  clear cA0 cA1 cA2 cA3
  clear cB0 cB1 cB2 cB3
  (try rw [← World.size_alloc w6 (.cells #[.int .i64 vr.kind, .int .i64 vr.num, .string vr.text, .slice faU vr.list.length fcU] 24)])
  have XX := boxed_new w6 (.int .i64 vr.kind) (.int .i64 vr.num) (.string vr.text) (.slice faU vr.list.length fcU)
  have hbx := stands_alloc w6 (.cells #[.int .i64 vr.kind, .int .i64 vr.num, .string vr.text, .slice faU vr.list.length fcU] 24)
  generalize w6.alloc (.cells #[.int .i64 vr.kind, .int .i64 vr.num, .string vr.text, .slice faU vr.list.length fcU] 24) = w7 at *
  generalize hbnU : w6.heap.size = bU at XX ⊢
  have HNU := Lib.hid hbnU; clear hbnU
  have RR := Lib.hid ((RepV.on hbx (Nat.le_refl _) NR.out).up (Below.size hbx) _)
  have XN := Lib.hid XX
  have B7 := Lib.hid (Below.step B6.out hbx)
  have XA7 := Lib.hid (XA6.out.on hbx)
  have XB7 := Lib.hid (XB6.out.on hbx)
  have XV7 := Lib.hid (XV6.out.on hbx)
  have RA7 := Lib.hid ((RepV.on hbx (Nat.le_refl _) RA6.out).up (Below.size hbx) _)
  have RB7 := Lib.hid ((RepV.on hbx (Nat.le_refl _) RB6.out).up (Below.size hbx) _)
  have RV7 := Lib.hid ((RepV.on hbx (Nat.le_refl _) RV6.out).up (Below.size hbx) _)
  clear B6 XA6 XB6 XV6 RA6 RB6 RV6
  have XU7 := XN; have RU7 := RR
  clear XX hbx RR XN NR
  have HVU : Hid (w0.heap.size ≤ bV ∧ w0.heap.size ≤ bU ∧ bV ≠ bU) := ⟨HVV.out, by have := HB6.out; have := HNU.out; omega, by have := HV6.out; have := HNU.out; omega⟩
  clear HB4 HB6 HV6 HVV
  refine (HO1.out _ _ _ _ _ _ _ _ _ RA7.out RB7.out).mono ?_
  rintro e w8 ⟨rfl, hb⟩
  have NR : Hid (RepV w8.heap.size w8 ov (.int .i64 ov.kind) (.int .i64 ov.num) (.string ov.text) (.slice faX ov.list.length fcX)) := Lib.hid (RepV.up (Nat.zero_le _) ov (HO0.out w8))
  have B8 := Lib.hid (Below.step B7.out hb)
  have XA8 := Lib.hid (XA7.out.on hb)
  have XB8 := Lib.hid (XB7.out.on hb)
  have XV8 := Lib.hid (XV7.out.on hb)
  have XU8 := Lib.hid (XU7.out.on hb)
  have RA8 := Lib.hid ((RepV.on hb (Nat.le_refl _) RA7.out).up (Below.size hb) _)
  have RB8 := Lib.hid ((RepV.on hb (Nat.le_refl _) RB7.out).up (Below.size hb) _)
  have RV8 := Lib.hid ((RepV.on hb (Nat.le_refl _) RV7.out).up (Below.size hb) _)
  have RU8 := Lib.hid ((RepV.on hb (Nat.le_refl _) RU7.out).up (Below.size hb) _)
  clear B7 XA7 XB7 XV7 XU7 RA7 RB7 RV7 RU7
  clear hb
  obtain ⟨cA0, cA1, cA2, cA3⟩ := (XA8.out.on (stands_alloc w8 (.cells #[.int .i64 ov.kind, .int .i64 ov.num, .string ov.text, .slice faX ov.list.length fcX] 24))).cells
  obtain ⟨cB0, cB1, cB2, cB3⟩ := (XB8.out.on (stands_alloc w8 (.cells #[.int .i64 ov.kind, .int .i64 ov.num, .string ov.text, .slice faX ov.list.length fcX] 24))).cells
  go_wp2_with fail
  clear cA0 cA1 cA2 cA3
  clear cB0 cB1 cB2 cB3
  (try rw [← World.size_alloc w8 (.cells #[.int .i64 ov.kind, .int .i64 ov.num, .string ov.text, .slice faX ov.list.length fcX] 24)])
  have XX := boxed_new w8 (.int .i64 ov.kind) (.int .i64 ov.num) (.string ov.text) (.slice faX ov.list.length fcX)
  have hbx := stands_alloc w8 (.cells #[.int .i64 ov.kind, .int .i64 ov.num, .string ov.text, .slice faX ov.list.length fcX] 24)
  generalize w8.alloc (.cells #[.int .i64 ov.kind, .int .i64 ov.num, .string ov.text, .slice faX ov.list.length fcX] 24) = w9 at *
  generalize hbnX : w8.heap.size = bX at XX ⊢
  have HNX := Lib.hid hbnX; clear hbnX
  have RR := Lib.hid ((RepV.on hbx (Nat.le_refl _) NR.out).up (Below.size hbx) _)
  have XN := Lib.hid XX
  have B9 := Lib.hid (Below.step B8.out hbx)
  have XA9 := Lib.hid (XA8.out.on hbx)
  have XB9 := Lib.hid (XB8.out.on hbx)
  have XV9 := Lib.hid (XV8.out.on hbx)
  have XU9 := Lib.hid (XU8.out.on hbx)
  have RA9 := Lib.hid ((RepV.on hbx (Nat.le_refl _) RA8.out).up (Below.size hbx) _)
  have RB9 := Lib.hid ((RepV.on hbx (Nat.le_refl _) RB8.out).up (Below.size hbx) _)
  have RV9 := Lib.hid ((RepV.on hbx (Nat.le_refl _) RV8.out).up (Below.size hbx) _)
  have RU9 := Lib.hid ((RepV.on hbx (Nat.le_refl _) RU8.out).up (Below.size hbx) _)
  clear B8 XA8 XB8 XV8 XU8 RA8 RB8 RV8 RU8
  have XX9 := XN; have RX9 := RR
  clear XX hbx RR XN NR
  refine (HO2.out _ _ _ _ _ _ _ _ _ RA9.out RB9.out).mono ?_
  rintro e w10 ⟨rfl, hb⟩
  obtain ⟨faY, hfaY⟩ : ∃ t, t = faX := ⟨_, rfl⟩
  obtain ⟨fcY, hfcY⟩ : ∃ t, t = fcX := ⟨_, rfl⟩
  have NR : Hid (RepV w10.heap.size w10 ov (.int .i64 ov.kind) (.int .i64 ov.num) (.string ov.text) (.slice faY ov.list.length fcY)) := by rw [hfaY, hfcY]; exact Lib.hid (RepV.up (Nat.zero_le _) ov (HO0.out w10))
  rw [← hfaY, ← hfcY]
  have HFY := Lib.hid (And.intro hfaY hfcY)
  clear hfaY hfcY
  have B10 := Lib.hid (Below.step B9.out hb)
  have XA10 := Lib.hid (XA9.out.on hb)
  have XB10 := Lib.hid (XB9.out.on hb)
  have XV10 := Lib.hid (XV9.out.on hb)
  have XU10 := Lib.hid (XU9.out.on hb)
  have XX10 := Lib.hid (XX9.out.on hb)
  have RA10 := Lib.hid ((RepV.on hb (Nat.le_refl _) RA9.out).up (Below.size hb) _)
  have RB10 := Lib.hid ((RepV.on hb (Nat.le_refl _) RB9.out).up (Below.size hb) _)
  have RV10 := Lib.hid ((RepV.on hb (Nat.le_refl _) RV9.out).up (Below.size hb) _)
  have RU10 := Lib.hid ((RepV.on hb (Nat.le_refl _) RU9.out).up (Below.size hb) _)
  have RX10 := Lib.hid ((RepV.on hb (Nat.le_refl _) RX9.out).up (Below.size hb) _)
  clear B9 XA9 XB9 XV9 XU9 XX9 RA9 RB9 RV9 RU9 RX9
  clear hb
  go_wp2_with fail
  (try rw [← World.size_alloc w10 (.cells #[.int .i64 ov.kind, .int .i64 ov.num, .string ov.text, .slice faY ov.list.length fcY] 24)])
  have XX := boxed_new w10 (.int .i64 ov.kind) (.int .i64 ov.num) (.string ov.text) (.slice faY ov.list.length fcY)
  have hbx := stands_alloc w10 (.cells #[.int .i64 ov.kind, .int .i64 ov.num, .string ov.text, .slice faY ov.list.length fcY] 24)
  generalize w10.alloc (.cells #[.int .i64 ov.kind, .int .i64 ov.num, .string ov.text, .slice faY ov.list.length fcY] 24) = w11 at *
  generalize hbnY : w10.heap.size = bY at XX ⊢
  have HNY := Lib.hid hbnY; clear hbnY
  have RR := Lib.hid ((RepV.on hbx (Nat.le_refl _) NR.out).up (Below.size hbx) _)
  have XN := Lib.hid XX
  have B11 := Lib.hid (Below.step B10.out hbx)
  have XA11 := Lib.hid (XA10.out.on hbx)
  have XB11 := Lib.hid (XB10.out.on hbx)
  have XV11 := Lib.hid (XV10.out.on hbx)
  have XU11 := Lib.hid (XU10.out.on hbx)
  have XX11 := Lib.hid (XX10.out.on hbx)
  have RA11 := Lib.hid ((RepV.on hbx (Nat.le_refl _) RA10.out).up (Below.size hbx) _)
  have RB11 := Lib.hid ((RepV.on hbx (Nat.le_refl _) RB10.out).up (Below.size hbx) _)
  have RV11 := Lib.hid ((RepV.on hbx (Nat.le_refl _) RV10.out).up (Below.size hbx) _)
  have RU11 := Lib.hid ((RepV.on hbx (Nat.le_refl _) RU10.out).up (Below.size hbx) _)
  have RX11 := Lib.hid ((RepV.on hbx (Nat.le_refl _) RX10.out).up (Below.size hbx) _)
  clear B10 XA10 XB10 XV10 XU10 XX10 RA10 RB10 RV10 RU10 RX10
  have XY11 := XN; have RY11 := RR
  clear XX hbx RR XN NR
  have HK := Lib.hid (Below.drew (Below.refl w11.heap.size w11))
  have hab : (an == an) = true := by simp
  obtain ⟨pA0, pA1, pA2, pA3⟩ := XA11.out.cells
  obtain ⟨pB0, pB1, pB2, pB3⟩ := XB11.out.cells
  obtain ⟨pV0, pV1, pV2, pV3⟩ := XV11.out.cells
  obtain ⟨pU0, pU1, pU2, pU3⟩ := XU11.out.cells
  obtain ⟨pX0, pX1, pX2, pX3⟩ := XX11.out.cells
  obtain ⟨pY0, pY1, pY2, pY3⟩ := XY11.out.cells
  go_region_held3 (fun w' => w'.cell? ⟨w0.heap.size, 0, none⟩ = some (.int .i64 x.kind) ∧ w'.cell? ⟨w0.heap.size, 1, none⟩ = some (.int .i64 x.num) ∧ w'.cell? ⟨w0.heap.size, 2, none⟩ = some (.string x.text) ∧ w'.cell? ⟨w0.heap.size, 3, none⟩ = some (.slice faA x.list.length fcA) ∧ w'.cell? ⟨w0.heap.size + 1, 0, none⟩ = some (.int .i64 y.kind) ∧ w'.cell? ⟨w0.heap.size + 1, 1, none⟩ = some (.int .i64 y.num) ∧ w'.cell? ⟨w0.heap.size + 1, 2, none⟩ = some (.string y.text) ∧ w'.cell? ⟨w0.heap.size + 1, 3, none⟩ = some (.slice faB y.list.length fcB) ∧ w'.cell? ⟨bV, 0, none⟩ = some (.int .i64 vr.kind) ∧ w'.cell? ⟨bV, 1, none⟩ = some (.int .i64 vr.num) ∧ w'.cell? ⟨bV, 2, none⟩ = some (.string vr.text) ∧ w'.cell? ⟨bV, 3, none⟩ = some (.slice faV vr.list.length fcV) ∧ w'.cell? ⟨bU, 0, none⟩ = some (.int .i64 vr.kind) ∧ w'.cell? ⟨bU, 1, none⟩ = some (.int .i64 vr.num) ∧ w'.cell? ⟨bU, 2, none⟩ = some (.string vr.text) ∧ w'.cell? ⟨bU, 3, none⟩ = some (.slice faU vr.list.length fcU) ∧ w'.cell? ⟨bX, 0, none⟩ = some (.int .i64 ov.kind) ∧ w'.cell? ⟨bX, 1, none⟩ = some (.int .i64 ov.num) ∧ w'.cell? ⟨bX, 2, none⟩ = some (.string ov.text) ∧ w'.cell? ⟨bX, 3, none⟩ = some (.slice faX ov.list.length fcX) ∧ w'.cell? ⟨bY, 0, none⟩ = some (.int .i64 ov.kind) ∧ w'.cell? ⟨bY, 1, none⟩ = some (.int .i64 ov.num) ∧ w'.cell? ⟨bY, 2, none⟩ = some (.string ov.text) ∧ w'.cell? ⟨bY, 3, none⟩ = some (.slice faY ov.list.length fcY))
    (first | exact ⟨(XA11.out.on HK.out).cells.1, (XA11.out.on HK.out).cells.2.1, (XA11.out.on HK.out).cells.2.2.1, (XA11.out.on HK.out).cells.2.2.2, (XB11.out.on HK.out).cells.1, (XB11.out.on HK.out).cells.2.1, (XB11.out.on HK.out).cells.2.2.1, (XB11.out.on HK.out).cells.2.2.2, (XV11.out.on HK.out).cells.1, (XV11.out.on HK.out).cells.2.1, (XV11.out.on HK.out).cells.2.2.1, (XV11.out.on HK.out).cells.2.2.2, (XU11.out.on HK.out).cells.1, (XU11.out.on HK.out).cells.2.1, (XU11.out.on HK.out).cells.2.2.1, (XU11.out.on HK.out).cells.2.2.2, (XX11.out.on HK.out).cells.1, (XX11.out.on HK.out).cells.2.1, (XX11.out.on HK.out).cells.2.2.1, (XX11.out.on HK.out).cells.2.2.2, (XY11.out.on HK.out).cells.1, (XY11.out.on HK.out).cells.2.1, (XY11.out.on HK.out).cells.2.2.1, (XY11.out.on HK.out).cells.2.2.2⟩)
    (first
      | (go_at_call 9; refine (arity_any name _).mono ?_; rw [HAN.out]; rintro e w' ⟨rfl, hb⟩; replace HK := Lib.hid (Below.step HK.out hb); clear hb)
      | (go_at_call 10; refine (refArity_any name _).mono ?_; unfold ArPost; rw [HAN.out]; rintro e w' ⟨rfl, rfl⟩)
      | (go_at_call 11; ((with_reducible refine (same_one vr _ _ _ _ _ _ _ _ _ _ (Nat.le_refl _) ((RepV.on HK.out (Nat.le_refl _) RV11.out).up HK.out.size _) ((RepV.on HK.out (Nat.le_refl _) RU11.out).up HK.out.size _)).mono ?_); rintro e w' ⟨rfl, hb⟩; replace HK := Lib.hid (Below.step HK.out hb); clear hb))
      | (go_at_call 11; ((with_reducible refine (same_one ov _ _ _ _ _ _ _ _ _ _ (Nat.le_refl _) ((RepV.on HK.out (Nat.le_refl _) RX11.out).up HK.out.size _) ((RepV.on HK.out (Nat.le_refl _) RY11.out).up HK.out.size _)).mono ?_); rintro e w' ⟨rfl, hb⟩; replace HK := Lib.hid (Below.step HK.out hb); clear hb))
      | (go_at_call 12; refine (test_any op x y _ _ _ _ _ _ _ _ _ _ (Nat.le_refl _) ((RepV.on HK.out (Nat.le_refl _) RA11.out).up HK.out.size _) ((RepV.on HK.out (Nat.le_refl _) RB11.out).up HK.out.size _)).mono ?_; rw [HTB.out]; rintro e w' ⟨rfl, hb⟩; replace HK := Lib.hid (Below.step HK.out hb); clear hb)
      | (go_at_call 13; refine (refTest_any op x y _ _ _ _ _ _ _ _ _ _ (Nat.le_refl _) ((RepV.on HK.out (Nat.le_refl _) RA11.out).up HK.out.size _) ((RepV.on HK.out (Nat.le_refl _) RB11.out).up HK.out.size _)).mono ?_; rw [HTB.out]; rintro e w' ⟨rfl, hb⟩; replace HK := Lib.hid (Below.step HK.out hb); clear hb))
  clear pA0 pA1 pA2 pA3 pB0 pB1 pB2 pB3 pV0 pV1 pV2 pV3 pU0 pU1 pU2 pU3 pX0 pX1 pX2 pX3 pY0 pY1 pY2 pY3
  obtain ⟨w12, hwn⟩ : ∃ t : World, t = w' := ⟨_, rfl⟩
  subst hwn
  clear XB11 XX11 XY11 RB11 RV11 RU11 RX11 RY11
  have B12 := Lib.hid (Below.step B11.out HK.out)
  have XA12 := Lib.hid (XA11.out.on HK.out)
  have XV12 := Lib.hid (XV11.out.on HK.out)
  have XU12 := Lib.hid (XU11.out.on HK.out)
  have RA12 := Lib.hid ((RepV.on HK.out (Nat.le_refl _) RA11.out).up (Below.size HK.out) _)
  clear B11 XA11 XV11 XU11 RA11
  clear HK HC1 HC2 HO0 HO1 HO2 HTB HAN hab HFY
  go_wp2_with fail
  refine (names_any _).mono ?_
  rintro e w13 ⟨rfl, hn5, hl5, hb⟩
  have HN5 := Lib.hid hn5
  clear hn5
  have B13 := Lib.hid (Below.step B12.out hb)
  have XA13 := Lib.hid (XA12.out.on hb)
  have XV13 := Lib.hid (XV12.out.on hb)
  have XU13 := Lib.hid (XU12.out.on hb)
  have RA13 := Lib.hid ((RepV.on hb (Nat.le_refl _) RA12.out).up (Below.size hb) _)
  clear B12 XA12 XV12 XU12 RA12
  clear hb
  go_wp2_with fail
  refine (pick2_any which 9 _ hwh (by omega) (by omega)).mono ?_
  rintro e w' ⟨rfl, rfl⟩
  obtain ⟨hp1, hp2⟩ := pickZ_bd which 9 (by omega)
  obtain ⟨kf, hk⟩ := Int.eq_ofNat_of_zero_le hp1
  have hk9 : kf < 9 := by omega
  rw [hk]; clear hk hp1 hp2
  have hcell := HN5.out kf hk9
  generalize (⟨(fname kf).toArray⟩ : ByteArray) = f at *
  generalize w12.heap.size = bn at *
  go_wp2_with fail
  clear hcell HN5 hl5
  obtain ⟨l, hl⟩ : ∃ t, listV (listTo raw 16) = t := ⟨_, rfl⟩
  have HLV := Lib.hid hl; clear hl
  refine (list2_any raw w0.heap.size _ _ 16 (by omega) B13.out.size (RepL.below (fun j hj => B13.out.block j hj) HRAW.out)).mono ?_
  rw [HLV.out]
  rintro e w14 ⟨c0, c1, c2, c3, rfl, hr, hb⟩
  obtain ⟨faL, fcL, rfl, rfl, rfl, rfl⟩ := hr.form
  have LOV : Hid (bV < w13.heap.size) := XV13.out.lt
  have LOU : Hid (bU < w13.heap.size) := XU13.out.lt
  have NR := Lib.hid hr
  generalize hlo : w13.heap.size = lo at NR LOV LOU
  have HLO := Lib.hid hlo
  have HLOS : Hid (lo ≤ w14.heap.size) := by show _ ≤ _; rw [← hlo]; exact hb.size
  clear hlo hr HLV
  have B14 := Lib.hid (Below.step B13.out hb)
  have XA14 := Lib.hid (XA13.out.on hb)
  have XV14 := Lib.hid (XV13.out.on hb)
  have XU14 := Lib.hid (XU13.out.on hb)
  have RA14 := Lib.hid ((RepV.on hb (Nat.le_refl _) RA13.out).up (Below.size hb) _)
  clear B13 XA13 XV13 XU13 RA13
  clear hb
  obtain ⟨cA0, cA1, cA2, cA3⟩ := (XA14.out.on (stands_alloc w14 (.cells #[.int .i64 l.kind, .int .i64 l.num, .string l.text, .slice faL l.list.length fcL] 24))).cells
  go_wp2_with fail
  clear cA0 cA1 cA2 cA3
  (try rw [← World.size_alloc w14 (.cells #[.int .i64 l.kind, .int .i64 l.num, .string l.text, .slice faL l.list.length fcL] 24)])
  have XX := boxed_new w14 (.int .i64 l.kind) (.int .i64 l.num) (.string l.text) (.slice faL l.list.length fcL)
  have hbx := stands_alloc w14 (.cells #[.int .i64 l.kind, .int .i64 l.num, .string l.text, .slice faL l.list.length fcL] 24)
  generalize w14.alloc (.cells #[.int .i64 l.kind, .int .i64 l.num, .string l.text, .slice faL l.list.length fcL] 24) = w15 at *
  generalize hbnL : w14.heap.size = bL at XX ⊢
  have HNL := Lib.hid hbnL; clear hbnL
  have RR := Lib.hid (RepG.rise hbx NR.out)
  have XN := Lib.hid XX
  have B15 := Lib.hid (Below.step B14.out hbx)
  have XA15 := Lib.hid (XA14.out.on hbx)
  have XV15 := Lib.hid (XV14.out.on hbx)
  have XU15 := Lib.hid (XU14.out.on hbx)
  have RA15 := Lib.hid ((RepV.on hbx (Nat.le_refl _) RA14.out).up (Below.size hbx) _)
  clear B14 XA14 XV14 XU14 RA14
  have XL15 := XN; have RL15 := RR
  clear XX hbx RR XN NR
  have HLOL : Hid (lo ≤ w15.heap.size) := by show _ ≤ _; have := HLOS.out; have := HNL.out; have := XL15.out.lt; omega
  obtain ⟨c, hc'⟩ : ∃ t, fitV 4 x = t := ⟨_, rfl⟩
  have HCV := Lib.hid hc'; clear hc'
  refine (Fit_any x _ _ _ _ _ _ (Nat.le_refl _) RA15.out).mono ?_
  rw [HCV.out]
  rintro e w16 ⟨c0, c1, c2, c3, rfl, hr, hb⟩
  obtain ⟨faC, fcC, rfl, rfl, rfl, rfl⟩ := hr.form
  have NR : Hid (RepG (fun b => lo ≤ b ∧ b < w16.heap.size) w16 c (.int .i64 c.kind) (.int .i64 c.num) (.string c.text) (.slice faC c.list.length fcC)) := Lib.hid (RepG.on (fun j hj => ⟨by have := HLOL.out; have := hj.1; omega, hj.2⟩) (fun _ _ => rfl) c hr)
  have HLOM : Hid (lo ≤ w16.heap.size) := by show _ ≤ _; have := HLOL.out; have := hb.size; omega
  clear hr HCV
  clear XA15 RA15
  have B16 := Lib.hid (Below.step B15.out hb)
  have XV16 := Lib.hid (XV15.out.on hb)
  have XU16 := Lib.hid (XU15.out.on hb)
  have XL16 := Lib.hid (XL15.out.on hb)
  have RL16 := Lib.hid (RepG.rise hb RL15.out)
  clear B15 XV15 XU15 XL15 RL15
  clear hb
  go_wp2_with fail
  (try rw [← World.size_alloc w16 (.cells #[.int .i64 c.kind, .int .i64 c.num, .string c.text, .slice faC c.list.length fcC] 24)])
  have XX := boxed_new w16 (.int .i64 c.kind) (.int .i64 c.num) (.string c.text) (.slice faC c.list.length fcC)
  have hbx := stands_alloc w16 (.cells #[.int .i64 c.kind, .int .i64 c.num, .string c.text, .slice faC c.list.length fcC] 24)
  generalize w16.alloc (.cells #[.int .i64 c.kind, .int .i64 c.num, .string c.text, .slice faC c.list.length fcC] 24) = w17 at *
  generalize hbnC : w16.heap.size = bC at XX ⊢
  have HNC := Lib.hid hbnC; clear hbnC
  have RR := Lib.hid (RepG.rise hbx NR.out)
  have XN := Lib.hid XX
  have B17 := Lib.hid (Below.step B16.out hbx)
  have XV17 := Lib.hid (XV16.out.on hbx)
  have XU17 := Lib.hid (XU16.out.on hbx)
  have XL17 := Lib.hid (XL16.out.on hbx)
  have RL17 := Lib.hid (RepG.rise hbx RL16.out)
  clear B16 XV16 XU16 XL16 RL16
  have XC17 := XN; have RC17 := RR
  clear XX hbx RR XN NR
  have HSS : Hid (∀ w' : World, Below w17.heap.size w17 w' → (w'.cell? ⟨bL, 0, none⟩ = some (.int .i64 l.kind) ∧ w'.cell? ⟨bL, 1, none⟩ = some (.int .i64 l.num) ∧ w'.cell? ⟨bL, 2, none⟩ = some (.string l.text) ∧ w'.cell? ⟨bL, 3, none⟩ = some (.slice faL l.list.length fcL) ∧ w'.cell? ⟨bC, 0, none⟩ = some (.int .i64 c.kind) ∧ w'.cell? ⟨bC, 1, none⟩ = some (.int .i64 c.num) ∧ w'.cell? ⟨bC, 2, none⟩ = some (.string c.text) ∧ w'.cell? ⟨bC, 3, none⟩ = some (.slice faC c.list.length fcC))) := Lib.hid (fun w' hb => ⟨(XL17.out.on hb).cells.1, (XL17.out.on hb).cells.2.1, (XL17.out.on hb).cells.2.2.1, (XL17.out.on hb).cells.2.2.2, (XC17.out.on hb).cells.1, (XC17.out.on hb).cells.2.1, (XC17.out.on hb).cells.2.2.1, (XC17.out.on hb).cells.2.2.2⟩)
  obtain ⟨m, hm'⟩ : ∃ t, listV (listTo args 16) = t := ⟨_, rfl⟩
  have HMV := Lib.hid hm'; clear hm'
  have HLOW : Hid (lo ≤ w17.heap.size) := by show _ ≤ _; have := HLOM.out; have := HNC.out; have := XC17.out.lt; omega
  refine wp_region_facts (by rfl) 149 (by rfl) (by kernel_rfl) (Fct lo l c m faL fcL faC fcC (.slice ga args.length gc)) (fun w' => Below w17.heap.size w17 w') (Below.drew (Below.refl _ _)) ⟨?s0, ?s1, ?s2, ?s3, ?s4, ?s5, ?s6, ?s7, ?s8, ?s9, ?s10, ?s11, ?s12, ?s13, ?s14, ?s15, ?s16, trivial⟩ ?fin
  case s0 =>
    intro a w hoff hg hdep K hK
    have hs := off_at hoff 25 (v := .pointer (some ⟨bL, 0, none⟩)) (by kernel_rfl) rfl
    obtain ⟨q0, q1, q2, q3, q4, q5, q6, q7⟩ := HSS.out w hg
    go_simp
    exact hK.out _ _ hg rfl (fun _ _ h => h)
  case s1 =>
    intro a w hoff hg hdep K hK
    obtain ⟨v0, e0, f0⟩ := hdep 0 _ 107 (by kernel_rfl) rfl rfl
    change v0 = _ at f0; subst f0
    go_simp
    have hba := stands_alloc w (.cells #[.int .i64 l.kind, .int .i64 l.num, .string l.text, .slice faL l.list.length fcL] 24)
    refine hK.out _ _ (Below.step hg hba) ⟨⟨_, _, rfl⟩, _, row_one (alloc_new' _ _) (Nat.le_trans HLOW.out hg.size) (RepG.rise hba (RepG.rise hg RL17.out))⟩ (fun _ _ h => Fct.stay hba h)
  case s2 =>
    intro a w hoff hg hdep K hK
    have hs := off_at hoff 25 (v := .pointer (some ⟨bL, 0, none⟩)) (by kernel_rfl) rfl
    obtain ⟨q0, q1, q2, q3, q4, q5, q6, q7⟩ := HSS.out w hg
    go_simp
    exact hK.out _ _ hg rfl (fun _ _ h => h)
  case s3 =>
    intro a w hoff hg hdep K hK
    have hs := off_at hoff 26 (v := .pointer (some ⟨bC, 0, none⟩)) (by kernel_rfl) rfl
    obtain ⟨q0, q1, q2, q3, q4, q5, q6, q7⟩ := HSS.out w hg
    go_simp
    exact hK.out _ _ hg rfl (fun _ _ h => h)
  case s4 =>
    intro a w hoff hg hdep K hK
    obtain ⟨v2, e2, f2⟩ := hdep 2 _ 109 (by kernel_rfl) rfl rfl
    obtain ⟨v3, e3, f3⟩ := hdep 3 _ 110 (by kernel_rfl) rfl rfl
    change v2 = _ at f2; subst f2
    change v3 = _ at f3; subst f3
    go_simp
    have hba := stands_alloc w (.cells #[.int .i64 l.kind, .int .i64 l.num, .string l.text, .slice faL l.list.length fcL, .int .i64 c.kind, .int .i64 c.num, .string c.text, .slice faC c.list.length fcC] 24)
    refine hK.out _ _ (Below.step hg hba) ⟨⟨_, _, rfl⟩, _, row_two (alloc_new' _ _) (Nat.le_trans HLOW.out hg.size) (RepG.rise hba (RepG.rise hg RL17.out)) (RepG.rise hba (RepG.rise hg RC17.out))⟩ (fun _ _ h => Fct.stay hba h)
  case s5 =>
    intro a w hoff hg hdep K hK
    have hs := off_at hoff 26 (v := .pointer (some ⟨bC, 0, none⟩)) (by kernel_rfl) rfl
    obtain ⟨q0, q1, q2, q3, q4, q5, q6, q7⟩ := HSS.out w hg
    go_simp
    exact hK.out _ _ hg rfl (fun _ _ h => h)
  case s6 =>
    intro a w hoff hg hdep K hK
    have hs := off_at hoff 25 (v := .pointer (some ⟨bL, 0, none⟩)) (by kernel_rfl) rfl
    obtain ⟨q0, q1, q2, q3, q4, q5, q6, q7⟩ := HSS.out w hg
    go_simp
    exact hK.out _ _ hg rfl (fun _ _ h => h)
  case s7 =>
    intro a w hoff hg hdep K hK
    obtain ⟨v5, e5, f5⟩ := hdep 5 _ 112 (by kernel_rfl) rfl rfl
    obtain ⟨v6, e6, f6⟩ := hdep 6 _ 113 (by kernel_rfl) rfl rfl
    change v5 = _ at f5; subst f5
    change v6 = _ at f6; subst f6
    go_simp
    have hba := stands_alloc w (.cells #[.int .i64 c.kind, .int .i64 c.num, .string c.text, .slice faC c.list.length fcC, .int .i64 l.kind, .int .i64 l.num, .string l.text, .slice faL l.list.length fcL] 24)
    refine hK.out _ _ (Below.step hg hba) ⟨⟨_, _, rfl⟩, _, row_two (alloc_new' _ _) (Nat.le_trans HLOW.out hg.size) (RepG.rise hba (RepG.rise hg RC17.out)) (RepG.rise hba (RepG.rise hg RL17.out))⟩ (fun _ _ h => Fct.stay hba h)
  case s8 =>
    intro a w hoff hg hdep K hK
    have hs := off_at hoff 25 (v := .pointer (some ⟨bL, 0, none⟩)) (by kernel_rfl) rfl
    obtain ⟨q0, q1, q2, q3, q4, q5, q6, q7⟩ := HSS.out w hg
    go_simp
    exact hK.out _ _ hg rfl (fun _ _ h => h)
  case s9 =>
    intro a w hoff hg hdep K hK
    have hs := off_at hoff 1 (v := .slice ga args.length gc) (by kernel_rfl) rfl
    go_simp
    exact hK.out _ _ hg rfl (fun _ _ h => h)
  case s10 =>
    intro a w hoff hg hdep K hK
    obtain ⟨v9, e9, f9⟩ := hdep 9 _ 116 (by kernel_rfl) rfl rfl
    change v9 = _ at f9; subst f9
    go_simp
    refine (list2_any args w0.heap.size _ _ 16 (by omega) (Nat.le_trans B17.out.size hg.size) (RepL.below (fun j hj => (Below.step B17.out hg).block j hj) HARGS.out)).mono ?_
    rw [HMV.out]
    rintro e w' ⟨c0, c1, c2, c3, rfl, hr, hb⟩
    obtain ⟨faM, fcM, rfl, rfl, rfl, rfl⟩ := hr.form
    refine hK.out _ _ (Below.step hg hb) ⟨faM, fcM, rfl, RepG.on (fun k hk => ⟨Nat.le_trans (Nat.le_trans HLOW.out hg.size) hk.1, hk.2⟩) (fun _ _ => rfl) m hr⟩ (fun _ _ h => Fct.stay hb h)
  case s11 =>
    intro a w hoff hg hdep K hK
    obtain ⟨v8, e8, f8⟩ := hdep 8 _ 115 (by kernel_rfl) rfl rfl
    obtain ⟨v10, e10, f10⟩ := hdep 10 _ 117 (by kernel_rfl) rfl rfl
    change v8 = _ at f8; subst f8
    obtain ⟨faM, fcM, rfl, rm⟩ := f10
    go_simp
    have hba := stands_alloc w (.cells #[.int .i64 l.kind, .int .i64 l.num, .string l.text, .slice faL l.list.length fcL, .int .i64 m.kind, .int .i64 m.num, .string m.text, .slice faM m.list.length fcM] 24)
    refine hK.out _ _ (Below.step hg hba) ⟨⟨_, _, rfl⟩, _, row_two (alloc_new' _ _) (Nat.le_trans HLOW.out hg.size) (RepG.rise hba (RepG.rise hg RL17.out)) (RepG.rise hba rm)⟩ (fun _ _ h => Fct.stay hba h)
  case s12 =>
    intro a w hoff hg hdep K hK
    have hs := off_at hoff 26 (v := .pointer (some ⟨bC, 0, none⟩)) (by kernel_rfl) rfl
    obtain ⟨q0, q1, q2, q3, q4, q5, q6, q7⟩ := HSS.out w hg
    go_simp
    exact hK.out _ _ hg rfl (fun _ _ h => h)
  case s13 =>
    intro a w hoff hg hdep K hK
    obtain ⟨v12, e12, f12⟩ := hdep 12 _ 119 (by kernel_rfl) rfl rfl
    change v12 = _ at f12; subst f12
    go_simp
    have hba := stands_alloc w (.cells #[.int .i64 c.kind, .int .i64 c.num, .string c.text, .slice faC c.list.length fcC] 24)
    refine hK.out _ _ (Below.step hg hba) ⟨⟨_, _, rfl⟩, _, row_one (alloc_new' _ _) (Nat.le_trans HLOW.out hg.size) (RepG.rise hba (RepG.rise hg RC17.out))⟩ (fun _ _ h => Fct.stay hba h)
  case s14 =>
    intro a w hoff hg hdep K hK
    obtain ⟨v1, e1, f1⟩ := hdep 1 _ 108 (by kernel_rfl) rfl rfl
    obtain ⟨v4, e4, f4⟩ := hdep 4 _ 111 (by kernel_rfl) rfl rfl
    obtain ⟨v7, e7, f7⟩ := hdep 7 _ 114 (by kernel_rfl) rfl rfl
    obtain ⟨v11, e11, f11⟩ := hdep 11 _ 118 (by kernel_rfl) rfl rfl
    obtain ⟨v13, e13, f13⟩ := hdep 13 _ 120 (by kernel_rfl) rfl rfl
    obtain ⟨⟨b1, n1, rfl⟩, ar1, hr1⟩ := f1
    obtain ⟨⟨b4, n4, rfl⟩, ar4, hr4⟩ := f4
    obtain ⟨⟨b7, n7, rfl⟩, ar7, hr7⟩ := f7
    obtain ⟨⟨b11, n11, rfl⟩, ar11, hr11⟩ := f11
    obtain ⟨⟨b13, n13, rfl⟩, ar13, hr13⟩ := f13
    go_simp
    have hba := stands_alloc w (.cells #[.slice (some ⟨b1, 0, none⟩) n1 n1, .slice (some ⟨b4, 0, none⟩) n4 n4, .slice (some ⟨b7, 0, none⟩) n7 n7, .slice (some ⟨b11, 0, none⟩) n11 n11, .slice (some ⟨b13, 0, none⟩) n13 n13] 22)
    have hnw : (w.alloc (.cells #[.slice (some ⟨b1, 0, none⟩) n1 n1, .slice (some ⟨b4, 0, none⟩) n4 n4, .slice (some ⟨b7, 0, none⟩) n7 n7, .slice (some ⟨b11, 0, none⟩) n11 n11, .slice (some ⟨b13, 0, none⟩) n13 n13] 22)).heap[w.heap.size]? = _ := alloc_new' w _
    refine hK.out _ _ (Below.step hg hba) ⟨_, rfl, (Nat.le_trans HLOW.out hg.size), fun k hk => ?_⟩ (fun _ _ h => Fct.stay hba h)
    match k, hk with
    | 0, _ => exact ⟨_, _, cell_of_block' hnw _ rfl, rise_row hba hr1⟩
    | 1, _ => exact ⟨_, _, cell_of_block' hnw _ rfl, rise_row hba hr4⟩
    | 2, _ => exact ⟨_, _, cell_of_block' hnw _ rfl, rise_row hba hr7⟩
    | 3, _ => exact ⟨_, _, cell_of_block' hnw _ rfl, rise_row hba hr11⟩
    | 4, _ => exact ⟨_, _, cell_of_block' hnw _ rfl, rise_row hba hr13⟩
  case s15 =>
    intro a w hoff hg hdep K hK
    obtain ⟨v14, e14, f14⟩ := hdep 14 _ 121 (by kernel_rfl) rfl rfl
    obtain ⟨br, rfl, -, -⟩ := f14
    go_simp
    exact hK.out _ _ hg rfl (fun _ _ h => h)
  case s16 =>
    intro a w hoff hg hdep K hK
    go_simp
    exact hK.out _ _ hg rfl (fun _ _ h => h)
  case fin =>
    intro a w18 hoff hb hf
    obtain ⟨v0, e0, f0⟩ := hf 0 _ 107 rfl rfl
    obtain ⟨v1, e1, f1⟩ := hf 1 _ 108 rfl rfl
    obtain ⟨v2, e2, f2⟩ := hf 2 _ 109 rfl rfl
    obtain ⟨v3, e3, f3⟩ := hf 3 _ 110 rfl rfl
    obtain ⟨v4, e4, f4⟩ := hf 4 _ 111 rfl rfl
    obtain ⟨v5, e5, f5⟩ := hf 5 _ 112 rfl rfl
    obtain ⟨v6, e6, f6⟩ := hf 6 _ 113 rfl rfl
    obtain ⟨v7, e7, f7⟩ := hf 7 _ 114 rfl rfl
    obtain ⟨v8, e8, f8⟩ := hf 8 _ 115 rfl rfl
    obtain ⟨v9, e9, f9⟩ := hf 9 _ 116 rfl rfl
    obtain ⟨v10, e10, f10⟩ := hf 10 _ 117 rfl rfl
    obtain ⟨v11, e11, f11⟩ := hf 11 _ 118 rfl rfl
    obtain ⟨v12, e12, f12⟩ := hf 12 _ 119 rfl rfl
    obtain ⟨v13, e13, f13⟩ := hf 13 _ 120 rfl rfl
    obtain ⟨v14, e14, f14⟩ := hf 14 _ 121 rfl rfl
    obtain ⟨v15, e15, f15⟩ := hf 15 _ 122 rfl rfl
    obtain ⟨v16, e16, f16⟩ := hf 16 _ 123 rfl rfl
    obtain ⟨br, rfl, hbr, hrows⟩ := f14
    change v15 = _ at f15; subst f15
    change v16 = _ at f16; subst f16
    rw [hoff.sets [(107, v0), (108, v1), (109, v2), (110, v3), (111, v4), (112, v5), (113, v6), (114, v7), (115, v8), (116, v9), (117, v10), (118, v11), (119, v12), (120, v13), (121, .slice (some ⟨br, 0, none⟩) 5 5), (122, .int .i64 5), (123, .int .i64 0)] (by kernel_rfl) (by intro p hp; simp only [List.mem_cons, List.not_mem_nil, or_false] at hp; rcases hp with rfl | rfl | rfl | rfl | rfl | rfl | rfl | rfl | rfl | rfl | rfl | rfl | rfl | rfl | rfl | rfl | rfl <;> assumption)]
    clear hoff hf e0 e1 e2 e3 e4 e5 e6 e7 e8 e9 e10 e11 e12 e13 e14 e15 e16 f0 f1 f2 f3 f4 f5 f6 f7 f8 f9 f10 f11 f12 f13
    simp only [List.foldl_cons, List.foldl_nil, List.setIfInBounds_toArray, List.set_cons_zero, List.set_cons_succ]
    have B18 := Lib.hid (Below.step B17.out hb)
    have XV18 := Lib.hid (XV17.out.on hb); have XU18 := Lib.hid (XU17.out.on hb)
    have HROWS := Lib.hid hrows; have HBR := Lib.hid hbr
    clear hb hrows hbr B17 XV17 XU17 XL17 XC17 RL17 RC17 HSS HLOW HMV HARGS HRAW HLOL HLOM HLOS HNL HNC HNV HNU HNX HNY
    have HLW : Hid (lo ≤ w18.heap.size) := by show _ ≤ _; have := HBR.out; obtain ⟨r, ar, h1, -⟩ := HROWS.out 0 (by omega); have := cell_lt h1; simp at this; omega
    have HVW : Hid (w0.heap.size ≤ bV ∧ w0.heap.size ≤ bU ∧ bV ≠ bU) := HVU
    go_wp2_with fail
    go_loopw [123, 17, 19, 28] (fun i _ _ _ wr => ∃ kk : Nat, kk ≤ 5 ∧ i = .int .i64 kk ∧ ∃ v0 v1 v2 v3 u0 u1 u2 u3 : Value, Hid (Boxed wr bV v0 v1 v2 v3) ∧ Hid (Boxed wr bU u0 u1 u2 u3) ∧ Hid (Keep bV bU w18 wr)) (fun i _ _ _ _ => 5 - (intOf i).toNat)
    case atStart => exact ⟨0, Nat.zero_le _, rfl, _, _, _, _, _, _, _, _, XV18, XU18, Lib.hid (Keep.refl _ _ _)⟩
    case round =>
      obtain ⟨kk, hkk, rfl, v0, v1, v2, v3, u0, u1, u2, u3, XV, XU, HKP⟩ := hrel
      by_cases hlt : kk < 5
      · obtain ⟨r, ar, hcell, hrep⟩ := HROWS.out kk hlt
        have hbrl : br < w18.heap.size := by have := cell_lt hcell; simpa using this
        have hcl : wr.cell? ⟨br, kk, none⟩ = some r := (World.cell?_of_block (w := w18) (HKP.out.block br hbrl (by have := LOV.out; have := HBR.out; omega) (by have := LOU.out; have := HBR.out; omega))).trans hcell
        have HRP : Hid (RepLG (fun k => lo ≤ k ∧ k < w18.heap.size) wr ar r) := Lib.hid (RepLG.on (fun _ h => h) (fun j hj => HKP.out.block j hj.2 (by have := LOV.out; have := hj.1; omega) (by have := LOU.out; have := hj.1; omega)) hrep)
        clear hcell hrep hbrl
        obtain ⟨vs, ps, hc1, hc2⟩ := calls_of f ar
        have HC1 := Lib.hid hc1; have HC2 := Lib.hid hc2
        clear hc1 hc2
        have LWR : Hid (lo ≤ wr.heap.size) := Nat.le_trans HLW.out HKP.out.size
        go_wp2_with fail
        refine (HC1.out wr r (RepLG.on (fun j hj => Nat.lt_of_lt_of_le hj.2 HKP.out.size) (fun _ _ => rfl) HRP.out)).mono ?_
        rintro e wc ⟨faS, fcS, rfl, hr, hb⟩
        have XVc := Lib.hid (XV.out.on hb); have XUc := Lib.hid (XU.out.on hb); have KPc := Lib.hid (HKP.out.step hb)
        obtain ⟨t0, t1, t2, t3⟩ := XVc.out.cells
        have z0 := frozen_of_row _ _ 0 _ _ XVc.out
        have z1 := frozen_of_row _ _ 1 _ _ XVc.out
        have z2 := frozen_of_row _ _ 2 _ _ XVc.out
        have z3 := frozen_of_row _ _ 3 _ _ XVc.out
        have XVd : Hid (Boxed ((((wc.setCell ⟨bV, 0, none⟩ (.int .i64 vs.kind)).setCell ⟨bV, 1, none⟩ (.int .i64 vs.num)).setCell ⟨bV, 2, none⟩ (.string vs.text)).setCell ⟨bV, 3, none⟩ (.slice faS vs.list.length fcS)) bV (.int .i64 vs.kind) (.int .i64 vs.num) (.string vs.text) (.slice faS vs.list.length fcS)) := Lib.hid (boxed_four XVc.out _ _ _ _)
        have XUd : Hid (Boxed ((((wc.setCell ⟨bV, 0, none⟩ (.int .i64 vs.kind)).setCell ⟨bV, 1, none⟩ (.int .i64 vs.num)).setCell ⟨bV, 2, none⟩ (.string vs.text)).setCell ⟨bV, 3, none⟩ (.slice faS vs.list.length fcS)) bU u0 u1 u2 u3) := Lib.hid ((heap_four (fun h => HVW.out.2.2 h.symm) _ _ _ _).trans XUc.out)
        have KPd : Hid (Keep bV bU w18 ((((wc.setCell ⟨bV, 0, none⟩ (.int .i64 vs.kind)).setCell ⟨bV, 1, none⟩ (.int .i64 vs.num)).setCell ⟨bV, 2, none⟩ (.string vs.text)).setCell ⟨bV, 3, none⟩ (.slice faS vs.list.length fcS))) := Lib.hid (KPc.out.store4 bV (.inl rfl) _ _ _ _)
        have RSd : Hid (RepG (fun k => lo ≤ k ∧ k < ((((wc.setCell ⟨bV, 0, none⟩ (.int .i64 vs.kind)).setCell ⟨bV, 1, none⟩ (.int .i64 vs.num)).setCell ⟨bV, 2, none⟩ (.string vs.text)).setCell ⟨bV, 3, none⟩ (.slice faS vs.list.length fcS)).heap.size) ((((wc.setCell ⟨bV, 0, none⟩ (.int .i64 vs.kind)).setCell ⟨bV, 1, none⟩ (.int .i64 vs.num)).setCell ⟨bV, 2, none⟩ (.string vs.text)).setCell ⟨bV, 3, none⟩ (.slice faS vs.list.length fcS)) vs (.int .i64 vs.kind) (.int .i64 vs.num) (.string vs.text) (.slice faS vs.list.length fcS)) := Lib.hid (RepG.on (fun k hk => by rw [size_four]; have := LWR.out; rcases hk with h | h; exact h.elim; exact ⟨by omega, h.2⟩) (fun k hk => heap_four (by have := LWR.out; have := LOV.out; rcases hk with h | h; exact h.elim; omega) _ _ _ _) vs hr)
        have HRd : Hid (RepLG (fun k => lo ≤ k ∧ k < w18.heap.size) ((((wc.setCell ⟨bV, 0, none⟩ (.int .i64 vs.kind)).setCell ⟨bV, 1, none⟩ (.int .i64 vs.num)).setCell ⟨bV, 2, none⟩ (.string vs.text)).setCell ⟨bV, 3, none⟩ (.slice faS vs.list.length fcS)) ar r) := Lib.hid (RepLG.on (fun _ h => h) (fun j hj => (heap_four (by have := LOV.out; have := hj.1; omega) _ _ _ _).trans (hb.block j (Nat.lt_of_lt_of_le hj.2 HKP.out.size))) HRP.out)
        clear hr hb XV XU HKP XVc XUc KPc HRP LWR
        go_wp2_with fail
        clear t0 t1 t2 t3 z0 z1 z2 z3 hcl
        generalize ((((wc.setCell ⟨bV, 0, none⟩ (.int .i64 vs.kind)).setCell ⟨bV, 1, none⟩ (.int .i64 vs.num)).setCell ⟨bV, 2, none⟩ (.string vs.text)).setCell ⟨bV, 3, none⟩ (.slice faS vs.list.length fcS)) = wd at *
        refine (HC2.out (fun k => lo ≤ k ∧ k < w18.heap.size) wd r ⟨fun j hj => Nat.lt_of_lt_of_le hj.2 KPd.out.size⟩ HRd.out).mono ?_
        rintro e we ⟨faT, fcT, rfl, hr, hb⟩
        have XVe := Lib.hid (XVd.out.on hb); have XUe := Lib.hid (XUd.out.on hb); have KPe := Lib.hid (KPd.out.step hb)
        obtain ⟨t0, t1, t2, t3⟩ := XUe.out.cells
        have z0 := frozen_of_row _ _ 0 _ _ XUe.out
        have z1 := frozen_of_row _ _ 1 _ _ XUe.out
        have z2 := frozen_of_row _ _ 2 _ _ XUe.out
        have z3 := frozen_of_row _ _ 3 _ _ XUe.out
        have XUf : Hid (Boxed ((((we.setCell ⟨bU, 0, none⟩ (.int .i64 vs.kind)).setCell ⟨bU, 1, none⟩ (.int .i64 vs.num)).setCell ⟨bU, 2, none⟩ (.string vs.text)).setCell ⟨bU, 3, none⟩ (.slice faT vs.list.length fcT)) bU (.int .i64 vs.kind) (.int .i64 vs.num) (.string vs.text) (.slice faT vs.list.length fcT)) := Lib.hid (boxed_four XUe.out _ _ _ _)
        have XVf : Hid (Boxed ((((we.setCell ⟨bU, 0, none⟩ (.int .i64 vs.kind)).setCell ⟨bU, 1, none⟩ (.int .i64 vs.num)).setCell ⟨bU, 2, none⟩ (.string vs.text)).setCell ⟨bU, 3, none⟩ (.slice faT vs.list.length fcT)) bV (.int .i64 vs.kind) (.int .i64 vs.num) (.string vs.text) (.slice faS vs.list.length fcS)) := Lib.hid ((heap_four HVW.out.2.2 _ _ _ _).trans XVe.out)
        have KPf : Hid (Keep bV bU w18 ((((we.setCell ⟨bU, 0, none⟩ (.int .i64 vs.kind)).setCell ⟨bU, 1, none⟩ (.int .i64 vs.num)).setCell ⟨bU, 2, none⟩ (.string vs.text)).setCell ⟨bU, 3, none⟩ (.slice faT vs.list.length fcT))) := Lib.hid (KPe.out.store4 bU (.inr rfl) _ _ _ _)
        have LWD : Hid (lo ≤ wd.heap.size) := Nat.le_trans HLW.out KPd.out.size
        have RSf : Hid (RepV ((((we.setCell ⟨bU, 0, none⟩ (.int .i64 vs.kind)).setCell ⟨bU, 1, none⟩ (.int .i64 vs.num)).setCell ⟨bU, 2, none⟩ (.string vs.text)).setCell ⟨bU, 3, none⟩ (.slice faT vs.list.length fcT)).heap.size ((((we.setCell ⟨bU, 0, none⟩ (.int .i64 vs.kind)).setCell ⟨bU, 1, none⟩ (.int .i64 vs.num)).setCell ⟨bU, 2, none⟩ (.string vs.text)).setCell ⟨bU, 3, none⟩ (.slice faT vs.list.length fcT)) vs (.int .i64 vs.kind) (.int .i64 vs.num) (.string vs.text) (.slice faS vs.list.length fcS)) := Lib.hid (RepG.on (fun k hk => by rw [size_four]; exact Nat.lt_of_lt_of_le hk.2 hb.size) (fun k hk => (heap_four (by have := LOU.out; have := hk.1; omega) _ _ _ _).trans (hb.block k hk.2)) vs RSd.out)
        have RTf : Hid (RepV ((((we.setCell ⟨bU, 0, none⟩ (.int .i64 vs.kind)).setCell ⟨bU, 1, none⟩ (.int .i64 vs.num)).setCell ⟨bU, 2, none⟩ (.string vs.text)).setCell ⟨bU, 3, none⟩ (.slice faT vs.list.length fcT)).heap.size ((((we.setCell ⟨bU, 0, none⟩ (.int .i64 vs.kind)).setCell ⟨bU, 1, none⟩ (.int .i64 vs.num)).setCell ⟨bU, 2, none⟩ (.string vs.text)).setCell ⟨bU, 3, none⟩ (.slice faT vs.list.length fcT)) vs (.int .i64 vs.kind) (.int .i64 vs.num) (.string vs.text) (.slice faT vs.list.length fcT)) := Lib.hid (RepG.on (fun k hk => by rw [size_four]; have := KPd.out.size; have := hb.size; rcases hk with h | h; (have := h.2; omega); exact h.2) (fun k hk => heap_four (by have := LWD.out; have := LOU.out; rcases hk with h | h; (have := h.1; omega); omega) _ _ _ _) vs hr)
        clear hr hb XVd XUd KPd XVe XUe KPe RSd HRd LWD HC1 HC2
        obtain ⟨a0, a1, a2, a3⟩ := XVf.out.cells
        obtain ⟨b0, b1, b2, b3⟩ := XUf.out.cells
        go_wp2_with fail
        clear t0 t1 t2 t3 z0 z1 z2 z3 a0 a1 a2 a3 b0 b1 b2 b3
        generalize ((((we.setCell ⟨bU, 0, none⟩ (.int .i64 vs.kind)).setCell ⟨bU, 1, none⟩ (.int .i64 vs.num)).setCell ⟨bU, 2, none⟩ (.string vs.text)).setCell ⟨bU, 3, none⟩ (.slice faT vs.list.length fcT)) = wf at *
        refine (same_one vs wf.heap.size _ _ _ _ _ _ _ _ _ (Nat.le_refl _) RSf.out RTf.out).mono ?_
        rintro e wg ⟨rfl, hb⟩
        have XVg := Lib.hid (XVf.out.on hb); have XUg := Lib.hid (XUf.out.on hb); have KPg := Lib.hid (KPf.out.step hb)
        clear hb XVf XUf KPf RSf RTf
        cases ps
        all_goals
          go_wp2_with fail
          go_roundw
          case rel => exact ⟨kk + 1, by omega, by go_num, _, _, _, _, _, _, _, _, XVg, XUg, KPg⟩
          case measure => simp [intOf]; omega
      · have hke : kk = 5 := by omega
        have HBE := Lib.hid (B18.out.trans (HKP.out.below B18.out.size HVW.out.1 HVW.out.2.1))
        clear HKP XV XU
        go_wp2_with fail
        go_ret
        exact ⟨rfl, HBE.out⟩

end Go.Proofs.YtaomlkglodeaoaaDoor.builtinTells
