/-
  StrMap, RegionU, StrLeast
-/
import Derived.Test.YtjmnnjikmmglpaaGreatKF20
import Derived.Test.YtjmnnjikmmglpaaGreatKF05
import Derived.Test.YtjmnnjikmmglpaaGreatKF06
import Derived.Maps.OwnOps
import Derived.Laws.IdiomStrings
import Derived.WalkMore
import Derived.ScopeJumps
import Derived.BigQuiet
namespace Go.Proofs.YtjmnnjikmmglpaaGreat
open Go.RowKit Go.Maps
theorem zeroInt8 (w : World) : (zeroValue 3).run Tryz.prog w = .ok (.int .i64 0) w := by kernel_rfl
def AtMap (w : World) (b n : Nat) (f : ByteArray → Option Nat) : Prop :=
 ∃ D : DataW Unit, w.ownsMap Tryz.prog 9 (plainElem Tryz.prog 3) b n D ∧ ∀ s : ByteArray, s.size ≤ maxLen → ∀ i, f s = some i → D.atKey (.string s.data.toList) (.lit (.int .i64 0)) = .lit (.int .i64 (i : Int))
theorem AtMap.lt {w : World} {b n : Nat} {f : ByteArray → Option Nat} (h : AtMap w b n f) : b < w.heap.size := by
 obtain ⟨D, h, -⟩ := h;exact h.lt
theorem AtMap.grown {w w' : World} {b n : Nat} {f : ByteArray → Option Nat} (h : AtMap w b n f) {row : Option Nat} (hg : w.grownBy w' row) (hne : some b ≠ row) : AtMap w' b n f := by
 obtain ⟨D, h, k⟩ := h;exact ⟨D, h.kept hg hne, k⟩
theorem AtMap.on {w w' : World} {b n : Nat} {f : ByteArray → Option Nat} (h : AtMap w b n f) (hg : Below w.heap.size w w') : AtMap w' b n f := h.grown (grown_of_below hg) (by simp)
theorem atMap_new (w : World) : AtMap (w.alloc (.map #[] 0)) w.heap.size 0 (fun _ => none) :=
 ⟨_, World.ownsMap_made _ _ _ _, fun s _ i h => by cases h⟩
theorem AtMap.congr {w : World} {b n : Nat} {f g : ByteArray → Option Nat} (h : AtMap w b n f) (e : ∀ x, f x = g x) : AtMap w b n g := by
 rwa [show g = f from funext fun x => (e x).symm]
theorem name_inj {a c : ByteArray} (h : a.data.toList = c.data.toList) : a = c := ByteArray.ext (Array.toList_inj.1 h)
theorem at_put {w : World} {D : DataW Unit} {b n : Nat} {f : ByteArray → Option Nat} {a : ByteArray} {i : Nat}
  (hown : w.ownsMap Tryz.prog 9 (plainElem Tryz.prog 3) b n (D.put (.string a.data.toList) (.lit (.int .i64 (i : Int))))) (hD : IsMap D) (ha : a.size ≤ maxLen)
  (hf : ∀ s : ByteArray, s.size ≤ maxLen → ∀ i, f s = some i → D.atKey (.string s.data.toList) (.lit (.int .i64 0)) = .lit (.int .i64 (i : Int))) :
  AtMap w b n (fun x => if x = a then some i else f x) := by
 refine ⟨_, hown, fun s hs j hj => ?_⟩
 by_cases he : s = a
 ·subst he
  simp only [if_true, Option.some.injEq] at hj
  subst hj;exact atKey_put_same hD (keyName.key (keyOf_name hs)) _ _
 ·simp only [if_neg he] at hj
  rw [atKey_put_other (by intro e; injection e with e; exact he (name_inj e))];exact hf s hs j hj
theorem at_get {w : World} {b n : Nat} {f : ByteArray → Option Nat} (h : AtMap w b n f) {s : ByteArray} {i : Nat} (hs : s.size ≤ maxLen) (hf : f s = some i) : ∃ D : DataW Unit, w.ownsMap Tryz.prog 9 (plainElem Tryz.prog 3) b n D ∧ D.atKey (.string s.data.toList) (.lit (.int .i64 0)) = .lit (.int .i64 (i : Int)) := by
 obtain ⟨D, h, k⟩ := h;exact ⟨D, h, k s hs i hf⟩
set_option maxRecDepth 100000 in
set_option maxHeartbeats 2000000 in
theorem placesOf_any (l : List De) (S : Nat → Prop) (w : World) (v : Value) (hS : ∀ k, S k → k < w.heap.size) (hl : RepDes S w l v) (hlen : l.length ≤ 1000) :
  Calls Tryz.prog 55 #[v] w fun e w' => ∃ b, e = .returned (.map (some b)) ∧ w.heap.size ≤ b ∧ AtMap w' b l.length (atO l 0) ∧ Below w.heap.size w w' := by
 have HL := Lib.hid hl; have HS := Lib.hid hS; have HN := Lib.hid hlen
 obtain ⟨fa, fc, rfl⟩ := SlG.form hl;clear hl hS;have hmm := @run_makeMap Tryz.prog;go_enter Tryz.func55, Tryz.ntmps55
 go_wp2_with fail
 have x0 := Lib.hid (atMap_new w);have d0 := Lib.hid ((Below.refl w.heap.size w).alloc (Nat.le_refl _) (.map #[] 0));generalize w.alloc (.map #[] 0) = w1 at *;clear hmm;go_loopw [9] (fun i wr => ∃ k : Nat, k ≤ l.length ∧ i = .int .i64 k ∧ Hid (AtMap wr w.heap.size k (atO (l.take k) 0)) ∧ Below w.heap.size w wr) (fun i _ => l.length - (intOf i).toNat)
 case atStart => exact ⟨0, Nat.zero_le _, rfl, x0.out.congr (fun _ => rfl), d0.out⟩
 case round =>
  obtain ⟨k, hk, rfl, hmap, hbel⟩ := hrel
  by_cases hl : k < l.length
  ·have hA := (SlG.on (fun _ h => h) (fun j hj => hbel.block j (HS.out j hj)) (fun _ _ _ h => h) HL.out : RepDes S wr l (.slice fa l.length fc))
   obtain ⟨-, -, b, o, rfl, hSb, g0, g1, g⟩ := RepDes.at hA k hl
   have HF : Hid (∀ s, atO (l.take (k + 1)) 0 s = if s = l[k].name then some k else atO (l.take k) 0 s) := fun s => by
    rw [List.take_succ_eq_append_getElem hl, atO_snoc, List.length_take, Nat.min_eq_left (Nat.le_of_lt hl), Nat.zero_add]
    by_cases he : s = l[k].name
    ·rw [if_pos he, if_pos (eqS_iff.2 he.symm)]
    ·rw [if_neg he, if_neg (fun h => he (eqS_iff.1 h).symm)]
   have hsz : l[k].name.size ≤ maxLen := g.2.2.1;clear hA g hSb;generalize l[k] = z at *;have hba := below_alloc wr (.cells #[.string z.name, .int .i64 z.arity] 112);have hbx := boxDe_new wr (.string z.name) (.int .i64 z.arity);have HB := Lib.hid (Below.step hbel hba);have HM := Lib.hid (hmap.out.on hba);obtain ⟨e0, e1⟩ := hbx.cells;clear hbel hba hbx hmap;go_upto_region 5 with fail
   clear g0 g1;obtain ⟨bx, hbx⟩ : ∃ bx, wr.heap.size = bx := ⟨_, rfl⟩;rw [hbx] at e0 e1 ⊢;clear hbx;generalize wr.alloc (.cells #[.string z.name, .int .i64 z.arity] 112) = wa at *;obtain ⟨D, hown, hf⟩ := HM.out;have hkey := keyOf_name hsz
   have hwf : plainElem (H := Unit) Tryz.prog 3 (.int .i64 (k : Int)) = some (.lit (.int .i64 (k : Int)), []) := plainElem_int Tryz.underlying3 (by
    have h1 := HN.out; have h2 := hl
    have e1 : IntKind.i64.min = -9223372036854775808 := by decide
    have e2 : IntKind.i64.max = 9223372036854775807 := by decide
    simp only [Lit.wf, e1, e2, Bool.and_eq_true, decide_eq_true_eq]; omega)
   have hkm : k < maxLen := by have := HN.out; unfold maxLen; omega
   have HPU : Hid (∀ w9 : World, w9.ownsMap Tryz.prog 9 (plainElem Tryz.prog 3) w.heap.size (k + 1) (D.put (.string z.name.data.toList) (.lit (.int .i64 (k : Int)))) → AtMap w9 w.heap.size (k + 1) (atO (l.take (k + 1)) 0)) := fun w9 h9 =>
    (at_put h9 hown.isMap hsz hf).congr fun s => (HF.out s).symm
   clear hf HM HF
   go_wp2_with (first
    | (at_mapUpdate; refine wpList_mapUpdate_own _ rfl _ _ _ 113 rfl 9 3 keyName Tryz.underlying113 (plainElem Tryz.prog 3) w.heap.size k _ rfl hown hkm _ _ _ rfl rfl hkey _ [] hwf ?_; intro w9 hown1 hgrow1)
    | fail)
   have HKN := Lib.hid (HPU.out w9 hown1);have B9 := Lib.hid (HB.out.grown hgrow1 HB.out.size (fun j e => by cases e; exact Nat.le_refl _));clear hown1 hgrow1 HPU hown;go_wp2_with fail
   go_roundw
   case rel => exact ⟨k + 1, hl, by go_num, HKN, B9.out⟩
   case measure => simp [intOf]; omega
  ·have HE : Hid (AtMap wr w.heap.size l.length (atO l 0)) := by
    have hkl : k = l.length := by omega
    subst hkl;exact hmap.out.congr (fun _ => by rw [List.take_length])
   go_wp2_with fail
   go_ret
   exact ⟨_, rfl, Nat.le_refl _, HE.out, hbel⟩
set_option maxRecDepth 100000 in
set_option maxHeartbeats 2000000 in
theorem rise_any (r : Ru) (z : Li) (w : World) (c2 c5 d2 : Value) :
  Calls Tryz.prog 69 #[.agg #[.string r.label, .string r.head, c2, .string r.agg, .int .i64 r.at', c5], .agg #[.int .i64 z.kind, .string z.name, d2]] w fun e w' => e = .returned (.int .i64 (riseOf r z : Int)) ∧ Below w.heap.size w w' := by
 go_enter Tryz.func69, Tryz.ntmps69
 go_upto_region 1 with fail
 have x0 := boxRu_new w (.string r.label) (.string r.head) c2 (.string r.agg) (.int .i64 r.at') c5;have d0 := below_alloc w (.cells #[.string r.label, .string r.head, c2, .string r.agg, .int .i64 r.at', c5] 47);have sa := World.size_alloc w (.cells #[.string r.label, .string r.head, c2, .string r.agg, .int .i64 r.at', c5] 47);generalize w.alloc (.cells #[.string r.label, .string r.head, c2, .string r.agg, .int .i64 r.at', c5] 47) = w1 at *;have x1 := boxLi_new w1 (.int .i64 z.kind) (.string z.name) d2;have d1 := below_alloc w1 (.cells #[.int .i64 z.kind, .string z.name, d2] 60);have y1 := x0.on d1;rw [sa] at x1;generalize w1.alloc (.cells #[.int .i64 z.kind, .string z.name, d2] 60) = w2 at *;have B2 := Lib.hid (Below.step d0 d1);obtain ⟨p0, p1, p2, p3, p4, p5⟩ := y1.cells;obtain ⟨q0, q1, q2⟩ := x1.cells;clear x0 d0 d1 sa
 cases hk : (z.kind == 2) with
 | true =>
  have HF : Hid (riseOf r z = 1) := by show _ = _; rw [riseOf, if_pos (.inl (by simpa using hk))]
  go_wp2_with fail
  go_ret
  exact ⟨by rw [HF.out]; rfl, B2.out⟩
 | false =>
  have hk0 : z.kind ≠ 2 := by simpa using hk
  obtain ⟨v, hv⟩ : ∃ v, r.agg.toList.isEmpty = v := ⟨_, rfl⟩
  cases v with
  | true =>
   have HF : Hid (riseOf r z = 0) := by
    show _ = _
    rw [riseOf, if_neg];rintro (h | h)
    ·exact hk0 h
    ·exact h (eqS_iff.1 (by rw [eqS, List.isEmpty_iff.1 hv]; simp [Lib.toList_data]))
   go_wp2_with fail
   go_ret
   exact ⟨by rw [HF.out]; rfl, B2.out⟩
  | false =>
   have HF : Hid (riseOf r z = 1) := by
    show _ = _
    rw [riseOf, if_pos (.inr fun h => by rw [h] at hv; simp [Lib.toList_data] at hv)]
   go_wp2_with fail
   go_ret
   exact ⟨by rw [HF.out]; rfl, B2.out⟩
end Go.Proofs.YtjmnnjikmmglpaaGreat
namespace Go.Proofs.YtjmnnjikmmglpaaGreat
open Go
section
variable {P : Program} {ops : Array Oper} {Q : Exit → Act → World → Prop} {md : Region.Mode}
def adrU (o : Oper) : Option Tmp := match o.op with
 | .store _ (.tmp d) _ => some d
 | _ => none
def Tie (a : Act) (o : Oper) (v : Value) : Prop := match o.dst, adrU o with
 | none, some d => a.tmps[d]? = some v
 | _, _ => True
def okOpsU (ops : Array Oper) (n : Nat) : Bool :=
 (List.range ops.size).all fun i => match ops[i]? with
  | none => true
  | some o => o.after.all (fun e => !Region.binds .any e || decide (e.on < i)) && (match o.dst with
   | none => (match adrU o with
    | none => true
    | some d => (List.range ops.size).all fun j => match ops[j]? with | some o' => !(o'.dst == some d) || o.after.any (fun e => Region.binds .any e && e.on == j) | none => true)
   | some d => decide (d < n) && (List.range ops.size).all fun j => j == i || (match ops[j]? with | some o' => !(o'.dst == some d) | none => true))
theorem okOpsU.at {n i : Nat} {o : Oper} (h : okOpsU ops n = true) (ho : ops[i]? = some o) : (∀ e ∈ o.after, Region.binds .any e = true → e.on < i) ∧ (∀ d, o.dst = some d → d < n ∧ ∀ j o', ops[j]? = some o' → j ≠ i → o'.dst ≠ some d) ∧
  (∀ d, o.dst = none → adrU o = some d → ∀ j o', ops[j]? = some o' → o'.dst = some d → ∃ e ∈ o.after, Region.binds .any e = true ∧ e.on = j) := by
 unfold okOpsU at h;rw [List.all_eq_true] at h;have h1 := h i (List.mem_range.2 (Array.getElem?_eq_some_iff.1 ho).1);rw [ho] at h1;simp only [Bool.and_eq_true] at h1
 obtain ⟨g3, g4⟩ := h1;refine ⟨fun e he hb => (by have h := Array.all_eq_true_iff_forall_mem.1 g3 e he; rw [hb] at h; simpa using h), fun d hd => ?_, fun d hd ha j o' hj he => ?_⟩
 ·rw [hd] at g4
  simp only [Bool.and_eq_true] at g4
  refine ⟨of_decide_eq_true g4.1, fun j o' hj hne he => ?_⟩;have h2 := List.all_eq_true.1 g4.2 j (List.mem_range.2 (Array.getElem?_eq_some_iff.1 hj).1);rw [hj] at h2;simp [hne, he] at h2
 ·rw [hd, ha] at g4
  have h2 := List.all_eq_true.1 g4 j (List.mem_range.2 (Array.getElem?_eq_some_iff.1 hj).1);rw [hj] at h2;simp only [he, beq_self_eq_true, Bool.not_true, Bool.false_or] at h2
  obtain ⟨e, h3, h4⟩ := Array.any_eq_true'.1 h2;simp only [Bool.and_eq_true, beq_iff_eq] at h4
  exact ⟨e, h3, h4.1, h4.2⟩
def StepU (P : Program) (md : Region.Mode) (ops : Array Oper) (A : Act) (F : World → Nat → Value → Prop) (G : World → Prop) (Q : Exit → Act → World → Prop) (i : Nat) (o : Oper) : Prop :=
 ∀ (a : Act) (w : World), Off ops A a → G w →
  (∀ (j : Nat) (o' : Oper) (d : Tmp), (o.after.any fun e => Region.binds md e && e.on == j) = true → ops[j]? = some o' → o'.dst = some d → ∃ v, a.tmps[d]? = some v ∧ F w j v) →
  ∀ K : Act → World → Prop, Shut (∀ v w', G w' → F w' i v → (∀ j u, F w j u → F w' j u) → (_ : Tie a o v := by exact True.intro) → K (a.put o.dst v) w') → if Region.wanted o (yielded ops a.tmps) = true then Oper.wp P o a w K Q else K (a.put o.dst undef) w
def StepsU (P : Program) (md : Region.Mode) (ops : Array Oper) (A : Act) (F : World → Nat → Value → Prop) (G : World → Prop) (Q : Exit → Act → World → Prop) : Nat → List Oper → Prop
 | _, [] => True
 | i, o :: os => StepU P md ops A F G Q i o ∧ StepsU P md ops A F G Q (i + 1) os
theorem StepsU.at {A : Act} {F : World → Nat → Value → Prop} {G : World → Prop} : ∀ (os : List Oper) (k i : Nat) (o : Oper), StepsU P md ops A F G Q k os → os[i]? = some o → StepU P md ops A F G Q (k + i) o
 | [], _, _, _, _, h => by simp at h
 | x :: os, k, 0, o, hs, h => by simp at h; subst h; exact hs.1
 | x :: os, k, i + 1, o, hs, h => by
  have := StepsU.at os (k + 1) i o hs.2 (by simpa using h);rw [show k + (i + 1) = k + 1 + i by omega]; exact this
def ResU (F : World → Nat → Value → Prop) (a : Act) (w : World) (i : Nat) (o : Oper) : Prop := (∀ d, o.dst = some d → ∃ v, a.tmps[d]? = some v ∧ F w i v) ∧ (o.dst = none → ∃ v, F w i v ∧ ∀ d, adrU o = some d → a.tmps[d]? = some v)
theorem wp_region_factsU {id : Nat} {A : Act} {w : World} (hm : P.follows .mixedOrders = true) (n : Nat) (hn : A.tmps.size = n) (hok : okOpsU ops n = true) (F : World → Nat → Value → Prop) (G : World → Prop) (hG : G w.drew)
  (hsteps : StepsU P .any ops A F G Q 0 ops.toList)
  (hend : ∀ a w, Off ops A a → G w → (∀ (i : Nat) (o : Oper) (d : Tmp), ops[i]? = some o → o.dst = some d → ∃ v, a.tmps[d]? = some v ∧ F w i v) → (∀ (i : Nat) (o : Oper), ops[i]? = some o → o.dst = none → ∃ v, F w i v ∧ ∀ d, adrU o = some d → a.tmps[d]? = some v) → Q .normal a w) :
  (Code.region id ops true).wp P Q A w := by
 refine wp_region_any hm (wpAny_inv (J := fun listed a w => listed.size = ops.size ∧ Off ops A a ∧ G w ∧ (∀ (i : Nat) (o : Oper), ops[i]? = some o → listed.getD i false = true → ∀ e ∈ o.after, Region.binds .any e = true → listed.getD e.on false = true) ∧ ∀ (i : Nat) (o : Oper), ops[i]? = some o → listed.getD i false = true → ResU F a w i o) ?_ ?_ _ _ _ _ ?_ ?_)
 ·rintro listed a w i ⟨hsz, hoff, hg, hcl, hf⟩ hi
  obtain ⟨h1, o, ho, hall⟩ := mem_ready.1 hi;obtain ⟨-, k4, -⟩ := okOpsU.at hok ho;have hin := getD_lt h1
  have hlf : listed.getD i false = false := by
   have : i < listed.size := hin;simp [this] at h1 ⊢; exact h1
  have hcl' : ∀ (j : Nat) (o' : Oper), ops[j]? = some o' → (listed.setIfInBounds i true).getD j false = true → ∀ e ∈ o'.after, Region.binds .any e = true → (listed.setIfInBounds i true).getD e.on false = true := by
   intro j o' ho' hl e he hb
   have hold : listed.getD e.on false = true := by
    by_cases ej : j = i
    ·subst ej
     obtain rfl : o' = o := Option.some.inj (ho'.symm.trans ho);exact hall e he hb
    ·rw [getD_set_ne false (fun h => ej h.symm)] at hl
     exact hcl j o' ho' hl e he hb
   by_cases ei : e.on = i
   ·rw [ei] at hold; rw [hlf] at hold; cases hold
   ·rw [getD_set_ne false (fun h => ei h.symm)]; exact hold
  have hst := StepsU.at ops.toList 0 i o hsteps (by simpa using ho);rw [Nat.zero_add] at hst;unfold wpOp;rw [ho];simp only
  have key := hst a w hoff hg (fun j o' d' hj ho' hd' => by
   obtain ⟨e, he, hb⟩ := Array.any_eq_true'.1 hj;simp only [Bool.and_eq_true, beq_iff_eq] at hb
   exact (hf j o' ho' (by rw [← hb.2]; exact hall e he hb.1)).1 d' hd') (fun a' w' => (listed.setIfInBounds i true).size = ops.size ∧ Off ops A a' ∧ G w' ∧ (∀ (i_1 : Nat) (o : Oper), ops[i_1]? = some o → (listed.setIfInBounds i true).getD i_1 false = true → ∀ e ∈ o.after, Region.binds .any e = true → (listed.setIfInBounds i true).getD e.on false = true) ∧ ∀ (j : Nat) (o : Oper), ops[j]? = some o → (listed.setIfInBounds i true).getD j false = true → ResU F a' w' j o) (fun v w' hg' hf' hstay htie => by
   cases k2 : o.dst with
   | none =>
    refine ⟨by rw [Array.size_setIfInBounds]; exact hsz, hoff, hg', hcl', fun j o' ho' hl => ?_⟩
    by_cases e : j = i
    ·subst e
     obtain rfl : o' = o := Option.some.inj (ho'.symm.trans ho);exact ⟨fun d hd => (by rw [k2] at hd; cases hd), fun _ => ⟨v, hf', fun d hd => (by rw [Tie, k2, hd] at htie; exact htie)⟩⟩
    ·rw [getD_set_ne false (fun h => e h.symm)] at hl
     obtain ⟨r1, r2⟩ := hf j o' ho' hl;exact ⟨fun d hd => (let ⟨u, hu, hF⟩ := r1 d hd; ⟨u, hu, hstay j u hF⟩), fun hd => (let ⟨u, hF, hT⟩ := r2 hd; ⟨u, hstay j u hF, hT⟩)⟩
   | some d =>
    obtain ⟨k3, k5⟩ := k4 d k2;refine ⟨by rw [Array.size_setIfInBounds]; exact hsz, hoff.put ho k2 v, hg', hcl', fun j o' ho' hl => ?_⟩
    by_cases e : j = i
    ·subst e
     obtain rfl : o' = o := Option.some.inj (ho'.symm.trans ho);refine ⟨fun d' hd' => ?_, fun hd' => by rw [k2] at hd'; cases hd'⟩;obtain rfl : d' = d := Option.some.inj (hd'.symm.trans k2);refine ⟨v, ?_, hf'⟩
     show (a.tmps.setIfInBounds d' v)[d']? = _
     rw [Array.getElem?_setIfInBounds, if_pos rfl, if_pos (by rw [hoff.size, hn]; exact k3)]
    ·rw [getD_set_ne false (fun h => e h.symm)] at hl
     obtain ⟨r1, r2⟩ := hf j o' ho' hl;refine ⟨fun d' hd' => ?_, fun hd => (let ⟨u, hF, hT⟩ := r2 hd; ⟨u, hstay j u hF, fun d' hd' => ?_⟩)⟩
     case refine_2 =>
      have hne : d ≠ d' := fun h => by
       obtain ⟨e, he, hb, heo⟩ := (okOpsU.at hok ho').2.2 d' hd hd' i o ho (by rw [k2, h]);have := hcl j o' ho' hl e he hb;rw [heo, hlf] at this; cases this
      show (a.tmps.setIfInBounds d v)[d']? = _
      rw [Array.getElem?_setIfInBounds, if_neg hne]; exact hT d' hd'
     obtain ⟨u, hu, hF⟩ := r1 d' hd';refine ⟨u, ?_, hstay j u hF⟩;have hne : d ≠ d' := fun h => k5 j o' ho' e (by rw [hd', h])
     show (a.tmps.setIfInBounds d v)[d']? = _
     rw [Array.getElem?_setIfInBounds, if_neg hne]; exact hu)
  split
  ·rename_i hw; rw [if_pos hw] at key; exact .inl key
  ·rename_i hw; rw [if_neg hw] at key; exact key
 ·rintro listed a w ⟨hsz, hoff, hg, -, hf⟩ hr
  have all : ∀ i, i < ops.size → listed.getD i false = true := by
   intro i
   induction i using Nat.strongRecOn with
   | _ i ih =>
    intro hi
    cases hl : listed.getD i true with
    | true => simpa [hsz, hi] using hl
    | false =>
     have ho : ops[i]? = some ops[i] := Array.getElem?_eq_getElem hi;have : i ∈ Region.ready .any ops listed := mem_ready.2 ⟨hl, ops[i], ho, fun e he hb => ih e.on ((okOpsU.at hok ho).1 e he hb) (Nat.lt_trans ((okOpsU.at hok ho).1 e he hb) hi)⟩;rw [hr] at this; cases this
  exact hend a w hoff hg (fun i o d ho hd => (hf i o ho (all i (Array.getElem?_eq_some_iff.1 ho).1)).1 d hd) (fun i o ho hd => (hf i o ho (all i (Array.getElem?_eq_some_iff.1 ho).1)).2 hd)
 ·exact Nat.le_trans List.countP_le_length (by simp)
 ·exact ⟨by simp, Off.refl _ _, hG, fun i o _ hl => (by rw [none_listed] at hl; cases hl), fun i o _ hl => (by rw [none_listed] at hl; cases hl)⟩
end
end Go.Proofs.YtjmnnjikmmglpaaGreat
namespace Go.Proofs.YtjmnnjikmmglpaaGreat
open Go.RowKit
def RepStp (_S : Nat → Prop) (_w : World) (x : Stp) (c : Nat → Value) : Prop := c 0 = .int .i64 (x.rel : Int) ∧ c 1 = .int .i64 (x.on : Int) ∧ c 2 = .int .i64 (x.rise : Int)
def RepStps (S : Nat → Prop) (w : World) (l : List Stp) (v : Value) : Prop := SlG S w 3 24 (RepStp S w) l v
theorem RepStps.at {S : Nat → Prop} {w : World} {l : List Stp} {a : Option Addr} {len cap : Nat} (h : RepStps S w l (.slice a len cap)) (i : Nat) (hi : i < l.length) :
  len = l.length ∧ l.length ≤ cap ∧ ∃ (b o : Nat), a = some ⟨b, o, none⟩ ∧ S b ∧ w.cell? ⟨b, o + i * 3, none⟩ = some (.int .i64 (l[i].rel : Int)) ∧ w.cell? ⟨b, o + i * 3 + 1, none⟩ = some (.int .i64 (l[i].on : Int)) ∧ w.cell? ⟨b, o + i * 3 + 2, none⟩ = some (.int .i64 (l[i].rise : Int)) := by
 obtain ⟨h1, h2, b, o, h3, h4, c, hc, e0, e1, e2⟩ := SlG.at h i hi;exact ⟨h1, h2, b, o, h3, h4, by rw [← e0]; exact hc 0 (by omega), by rw [← e1]; exact hc 1 (by omega), by rw [← e2]; exact hc 2 (by omega)⟩
def NumAt (w : World) (b n : Nat) (f : Nat → Nat) : Prop := ∃ arr : Array Value, w.heap[b]? = some (.cells arr 3 (0, 0)) ∧ arr.size = n ∧ ∀ i < n, arr[i]? = some (.int .i64 (f i : Int))
theorem NumAt.lt {w : World} {b n : Nat} {f : Nat → Nat} (h : NumAt w b n f) : b < w.heap.size := by
 obtain ⟨arr, h, -⟩ := h;exact (Array.getElem?_eq_some_iff.1 h).1
theorem NumAt.on {w w' : World} {b n : Nat} {f : Nat → Nat} (h : NumAt w b n f) (hg : Below w.heap.size w w') : NumAt w' b n f := by
 have hl := h.lt;obtain ⟨arr, h, h1, h2⟩ := h;exact ⟨arr, (hg.block b hl).trans h, h1, h2⟩
theorem NumAt.cell {w : World} {b n : Nat} {f : Nat → Nat} (h : NumAt w b n f) {i : Nat} (hi : i < n) : w.cell? ⟨b, i, none⟩ = some (.int .i64 (f i : Int)) := by
 obtain ⟨arr, h, h1, h2⟩ := h;exact cell_of_block' h _ (h2 i hi)
theorem NumAt.frozen {w : World} {b n : Nat} {f : Nat → Nat} (h : NumAt w b n f) (i : Nat) : w.frozen? ⟨b, i, none⟩ = false := by
 obtain ⟨arr, h, -⟩ := h;exact frozen_of_row w b i _ _ h
theorem NumAt.put {w : World} {b n : Nat} {f : Nat → Nat} (h : NumAt w b n f) {i v : Nat} (_hi : i < n) : NumAt (w.setCell ⟨b, i, none⟩ (.int .i64 (v : Int))) b n (putN f i v) := by
 obtain ⟨arr, h, h1, h2⟩ := h;refine ⟨_, heap_setCell_same _ _ _ _ _ _ h, by simpa using h1, fun j hj => ?_⟩;rw [Array.getElem?_setIfInBounds, putN]
 by_cases he : j = i
 ·subst he; rw [if_pos rfl, if_pos (by omega), if_pos rfl]
 ·rw [if_neg (fun e => he e.symm), if_neg he]; exact h2 j hj
theorem infoInt : (Tryz.prog.info? 3).map (fun i => (i.zero, i.size, i.bytes)) = some (some (.int .i64 0), 1, 8) := by kernel_rfl
theorem makeInts (n : Nat) (hn : n ≤ 1000000) : ∃ row : Array Value,
  (∀ w : World, (Instr.makeSlice 33 (.int .i64 (n : Int)) (.int .i64 (n : Int))).run Tryz.prog w = .ok (.slice (some ⟨w.heap.size, 0, none⟩) n n) (w.alloc (.cells row 3))) ∧
  ∀ w : World, NumAt (w.alloc (.cells row 3)) w.heap.size n (fun _ => 0) := by
 obtain ⟨i0, hi, hz0, hz1, hz2⟩ := info_parts infoInt;refine ⟨madeCells #[.int .i64 0] n, fun w => ?_, fun w => ⟨_, alloc_new' _ _, ?_, fun j hj => ?_⟩⟩
 ·have h := Go.run_make (P := Tryz.prog) w 33 3 i0 _ Tryz.underlying33 hi hz0 .i64 .i64 n n (by omega) (by omega) (by rw [hz2]; omega) (by omega)
  rw [h, hz1, Int.toNat_natCast, Nat.mul_one];rfl
 ·rw [size_madeCells]
 ·have hl : j < (madeCells #[.int .i64 0] n).size := by rw [size_madeCells]; simpa using hj
  rw [Array.getElem?_eq_getElem hl];simp [madeCells, Nat.mod_one]
def cellN (w : World) (b i : Nat) : Nat := match w.cell? ⟨b, i, none⟩ with
 | some (.int _ q) => q.toNat
 | _ => 0
theorem total_congr {f g : Nat → Nat} : ∀ n, (∀ i < n, f i = g i) → total n f = total n g
 | 0, _ => rfl
 | n + 1, h => by rw [total, total, total_congr n fun i hi => h i (by omega), h n (by omega)]
theorem NumAt.total {w : World} {b n : Nat} {f : Nat → Nat} (h : NumAt w b n f) : total n (cellN w b) = total n f :=
 total_congr n fun i hi => by rw [cellN, h.cell hi]; simp
theorem putN_lt {n : Nat} {f : Nat → Nat} {r v : Nat} (h : ∀ i < n, f i < n) (hv : v < n) : ∀ i < n, putN f r v i < n := fun i hi => by
 rw [putN]; split
 ·exact hv
 ·exact h i hi
def LeastPost (l : List Stp) (n : Nat) (w : World) (e : Ending) (w' : World) : Prop :=
 Below w.heap.size w w' ∧ ((∃ b f, e = .returned (.tuple #[.slice (some ⟨b, 0, none⟩) n n, .bool true]) ∧ w.heap.size ≤ b ∧ NumAt w' b n f ∧ LeastN n l f) ∨ (e = .returned (.tuple #[.slice none 0 0, .bool false]) ∧ ¬ ∃ g, Sol l g))
def LeastJ (l : List Stp) (n : Nat) (w : World) (B : Nat) (v : Value) (a : Act) (w' : World) : Prop :=
 ∃ (f : Nat → Nat) (u4 u5 u7 u8 u9 u10 u11 u12 u13 u14 u15 u16 u17 u18 u19 u20 u21 u22 u23 u24 u25 u26 u27 u28 u29 u30 u31 u32 u33 u34 u35 u36 u37 u38 u39 u40 u41 u42 : Value),
  a = { tmps := #[.int .i64 (n : Int), v, undef, undef, u4, u5, .slice (some ⟨B, 0, none⟩) n n, u7, u8, u9, u10, u11, u12, u13, u14, u15, u16, u17, u18, u19, u20, u21, u22, u23, u24, u25, u26, u27, u28, u29, u30, u31, u32, u33, u34, u35, u36, u37, u38, u39, u40, u41, u42], defers := [] } ∧
  NumAt w' B n f ∧ (∀ i < n, f i < n) ∧ Low n l f ∧ Below w.heap.size w w'
theorem wp_scope_goto {P : Program} {a : Act} {w : World} {Q : Exit → Act → World → Prop} {c rest : Code} (l : Nat) (J : Act → World → Prop) (μ : Act → World → Nat) (hf : findLabel c l = some (.seq .skip rest))
  (first : (∀ a w, J a w → rest.wp P (Exit.jump l J Q) a w) → c.wp P (Exit.jump l J Q) a w)
  (pass : ∀ a w, J a w → rest.wp P (Exit.jump l (fun a' w' => J a' w' ∧ μ a' w' < μ a w) Q) a w) : (Code.scope c).wp P Q a w :=
 wp_scope_jumps l J μ hf (first fun a w hJ => Code.wp_mono (fun e a' w' h => by
  cases e with
  | goto l' => exact ⟨h.1, h.2.1⟩
  | normal => exact h
  | exit id => exact h
  | ret => exact h
  | panic ch => exact h
  | outgrown => exact h) (pass a w hJ)) fun a w hJ => wp_seq (wp_skip (pass a w hJ))
set_option maxRecDepth 100000 in
set_option maxHeartbeats 2000000 in
theorem least_any (l : List Stp) (n : Nat) (S : Nat → Prop) (w : World) (v : Value) (hS : ∀ k, S k → k < w.heap.size) (hl : RepStps S w l v) (hin : Inside n l) (hn : n ≤ 1000) (hlen : l.length ≤ 1000) :
  Calls Tryz.prog 35 #[.int .i64 (n : Int), v] w (LeastPost l n w) := by
 obtain ⟨row, hmk, hnum⟩ := makeInts n (by omega);have HL := Lib.hid hl; have HS := Lib.hid hS; have HI := Lib.hid hin; have HN := Lib.hid hn; have HLN := Lib.hid hlen; have HNU := Lib.hid hnum
 obtain ⟨fa, fc, rfl⟩ := SlG.form hl;clear hl hS hin hnum;go_enter Tryz.func35, Tryz.ntmps35
 go_wp2
 refine wp_scope_goto 0 (LeastJ l n w w.heap.size (.slice fa l.length fc)) (fun _ w' => n * n - total n (cellN w' w.heap.size)) rfl ?_ ?_
 ·intro hrest
  go_wp2
  go_step3
  rename_i K hK
  refine hK _ _ (hrest _ _ ⟨fun _ => 0, _, _, undef, undef, undef, _, _, undef, undef, undef, undef, undef, undef, undef, undef, undef, undef, undef, undef, undef, undef, undef, undef, undef, undef, undef, undef, undef, undef, undef, undef, undef, undef, undef, undef, undef, undef, undef, rfl, HNU.out w, fun i hi => (by show 0 < n; omega), Low.zero n l, below_alloc w _⟩)
 ·rintro a wj ⟨f, u4, u5, u7, u8, u9, u10, u11, u12, u13, u14, u15, u16, u17, u18, u19, u20, u21, u22, u23, u24, u25, u26, u27, u28, u29, u30, u31, u32, u33, u34, u35, u36, u37, u38, u39, u40, u41, u42, rfl, hnum, hfn, hlow, hbel⟩
  have HF := Lib.hid hfn; have HLO := Lib.hid hlow; have HT := Lib.hid hnum.total
  have HNM := Lib.hid hnum; have HB := Lib.hid hbel
  obtain ⟨B, hB⟩ : ∃ B, w.heap.size = B := ⟨_, rfl⟩;have HWB := Lib.hid hB;rw [hB] at HNM HT ⊢;clear hfn hlow hnum hbel hB;go_wp2_with fail
  go_loopw [14] (fun i wr => ∃ k : Nat, k ≤ l.length ∧ i = .int .i64 k ∧ Hid (NumAt wr B n f) ∧ Hid (Below w.heap.size w wr) ∧ Hid (∀ j, (h : j < l.length) → j < k → f l[j].on + l[j].rise ≤ f l[j].rel)) (fun i _ => l.length - (intOf i).toNat)
  case atStart => exact ⟨0, Nat.zero_le _, rfl, HNM, HB, Lib.hid fun j _ h => absurd h (Nat.not_lt_zero _)⟩
  case round =>
   obtain ⟨k, hk, rfl, hnum, hbel, hdone⟩ := hrel
   by_cases hl : k < l.length
   ·have hA := (SlG.on (fun _ h => h) (fun j hj => hbel.out.block j (HS.out j hj)) (fun _ _ _ h => h) HL.out : RepStps S wr l (.slice fa l.length fc))
    obtain ⟨-, -, b, o, rfl, hSb, g0, g1, g2⟩ := RepStps.at hA k hl;have hins := HI.out l[k] (List.getElem_mem hl);have HM := Lib.hid (List.getElem_mem hl);have HD := Lib.hid hdone.out;clear hA hSb hdone
    have HE : Hid (∀ h : f l[k].on + l[k].rise ≤ f l[k].rel, ∀ j, (h : j < l.length) → j < k + 1 → f l[j].on + l[j].rise ≤ f l[j].rel) := fun h j hj hjk => by
     by_cases he : j = k
     ·subst he; exact h
     ·exact HD.out j hj (by omega)
    clear HD;generalize l[k] = z at *;obtain ⟨hi1, hi2, hi3⟩ := hins;have hba := below_alloc wr (.cells #[.int .i64 (z.rel : Int), .int .i64 (z.on : Int), .int .i64 (z.rise : Int)] 131);have m := alloc_new' wr (.cells #[.int .i64 (z.rel : Int), .int .i64 (z.on : Int), .int .i64 (z.rise : Int)] 131);have HB2 := Lib.hid (Below.step hbel.out hba);have HN2 := Lib.hid (hnum.out.on hba);clear hba hbel hnum;go_upto_region 5 with fail
    clear g0 g1 g2;obtain ⟨bx, hbx⟩ : ∃ bx, wr.heap.size = bx := ⟨_, rfl⟩;rw [hbx] at m ⊢;clear hbx;generalize wr.alloc (.cells #[.int .i64 (z.rel : Int), .int .i64 (z.on : Int), .int .i64 (z.rise : Int)] 131) = wa at *;have p0 := cell_of_block' (i := 0) m _ rfl;have p1 := cell_of_block' (i := 1) m _ rfl;have p2 := cell_of_block' (i := 2) m _ rfl;have c1 := HN2.out.cell hi2;have c2 := HN2.out.cell hi1;have i1 : (0 : Int) ≤ (z.on : Int) := Int.natCast_nonneg _;have i2 : (z.on : Int) < (n : Int) := by omega
    have i3 : (0 : Int) ≤ (z.rel : Int) := Int.natCast_nonneg _;have i4 : (z.rel : Int) < (n : Int) := by omega
    have hfo := HF.out _ hi2;have hfr := HF.out _ hi1;obtain ⟨low, hlow⟩ : ∃ low, f z.on + z.rise = low := ⟨_, rfl⟩;have hw : wrap64 ((f z.on : Int) + (z.rise : Int)) = (low : Int) := by unfold wrap64; have := HN.out; omega
    have MB := Lib.hid m;clear m hfo hfr;go_quiet (fail)
    rw [hw];have hd := below_drewN (Below.refl wa.heap.size wa) nq;have MB2 := Lib.hid ((hd.block _ (Array.getElem?_eq_some_iff.1 MB.out).1).trans MB.out);have HN3 := Lib.hid (HN2.out.on hd);have HB3 := Lib.hid (Below.step HB2.out hd);clear hd p0 p1 p2 c1 c2 MB HN2 HB2 hw;generalize wa.drewN nq = wb at *;have p0 := cell_of_block' (i := 0) MB2.out _ rfl;have c2 := HN3.out.cell hi1
    by_cases hle : low ≤ f z.rel
    ·have hd : decide ((low : Int) ≤ (f z.rel : Int)) = true := decide_eq_true (by omega)
     rw [hlow] at HE;go_wp2_with fail
     go_roundw
     case rel => exact ⟨k + 1, hl, by go_num, HN3, HB3, Lib.hid (HE.out hle)⟩
     case measure => simp [intOf]; omega
    ·have hd : decide ((low : Int) ≤ (f z.rel : Int)) = false := decide_eq_false (by omega)
     clear HE
     by_cases hge : n ≤ low
     ·have hd2 : decide (n ≤ low) = true := decide_eq_true hge
      have HG : Hid (n ≤ f z.on + z.rise) := by show _ ≤ _; omega
      clear hge hlow;go_wp2_with fail
      refine (?_ : bodyPost _ _ _ Exit.ret _ _);go_ret2
      exact ⟨HB3.out, .inr ⟨rfl, Low.none HLO.out HI.out HM.out HG.out⟩⟩
     ·have hd2 : decide ((n : Int) ≤ (low : Int)) = false := decide_eq_false (by omega)
      have z0 := HN3.out.frozen z.rel;have HLW := Lib.hid hlow;have HG : Hid (low < n ∧ f z.rel < low) := by show _ ∧ _; omega
      have HI1 := Lib.hid hi1;clear hlow;go_wp2_with fail
      go_step3
      have HP := HN3.out.put (v := low) HI1.out;have hnew : putN f z.rel low = putN f z.rel (f z.on + z.rise) := by rw [HLW.out]
      refine ⟨rfl, ⟨putN f z.rel low, _, _, _, _, _, _, _, _, _, _, _, _, _, _, _, _, _, _, _, _, _, _, _, _, _, _, _, _, _, _, _, _, _, _, _, _, _, _, rfl, HP, putN_lt HF.out HG.out.1, by rw [hnew]; exact Low.step HLO.out HI.out HM.out, Below.setCell (p := ⟨B, z.rel, none⟩) HB3.out (by rw [HWB.out]; exact Nat.le_refl _) _⟩, ?_⟩;have h1 := put_total HI1.out HG.out.2;have h2 := total_bound (f := putN f z.rel low) (b := n) n fun i hi => Nat.le_of_lt (putN_lt HF.out HG.out.1 i hi)
      show n * n - total n (cellN (wb.setCell ⟨B, z.rel, none⟩ (.int .i64 (low : Int))) B) < n * n - total n (cellN wj B)
      rw [HP.total, HT.out];omega
   ·have hkl : k = l.length := by omega
    subst hkl;go_wp2_with fail
    refine (?_ : bodyPost _ _ _ Exit.ret _ _);go_ret2
    exact ⟨hbel.out, .inl ⟨B, f, rfl, by rw [HWB.out]; exact Nat.le_refl _, hnum.out, fun s hs => by
     obtain ⟨j, hj, rfl⟩ := List.getElem_of_mem hs
     exact hdone.out j hj hj, HLO.out⟩⟩
end Go.Proofs.YtjmnnjikmmglpaaGreat
