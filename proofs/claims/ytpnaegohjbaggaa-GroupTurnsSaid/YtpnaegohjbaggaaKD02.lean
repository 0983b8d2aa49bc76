/-
  RowMany, StepBy, Region, RegionG
-/
import Derived.Test.YtpnaegohjbaggaaKD01
import Derived.Deep.RegionLaw
import Derived.Orders
import Derived.Deep.RegionHeld
import Derived.WalkKit
namespace Go.Proofs.Ytpnaegohjbaggaa
open Go.RowKit
theorem mod_of' {i j n : Nat} (hj : j < n) : (i * n + j) / n = i ∧ (i * n + j) % n = j := by
 have hn : 0 < n := by omega
 constructor
 ·rw [Nat.mul_comm, Nat.mul_add_div hn, Nat.div_eq_of_lt hj, Nat.add_zero]
 ·rw [Nat.mul_comm, Nat.mul_add_mod, Nat.mod_eq_of_lt hj]
theorem SlG.front {α : Type} {S : Nat → Prop} {w : World} {n bytes : Nat} {R : α → (Nat → Value) → Prop} {l : List α} {a : Option Addr} {c len : Nat} (h : SlG S w n bytes R l (.slice a len c)) {k : Nat} (hk : k ≤ l.length) :
  SlG S w n bytes R (l.take k) (.slice a k c) := by
 obtain ⟨a', b, o, cap, e, h6, h7, h8, h9, h10⟩ := h
 cases e
 have hlen : (l.take k).length = k := by rw [List.length_take]; omega
 refine ⟨a, b, o, c, by rw [hlen], by omega, ?_, h8, fun h0 => h9 (by omega), fun i hi => ?_⟩
 ·rw [hlen]; exact Nat.le_trans (Nat.mul_le_mul_right _ hk) h7
 ·obtain ⟨f, hf, hr⟩ := h10 i (by omega)
  exact ⟨f, hf, by rw [List.getElem_take]; exact hr⟩
theorem SlG.behind {α : Type} {S : Nat → Prop} {w : World} {n bytes : Nat} {R : α → (Nat → Value) → Prop} {l : List α} {b o c len : Nat} (h : SlG S w n bytes R l (.slice (some ⟨b, o, none⟩) len c)) {k : Nat} (hk : k ≤ l.length) (h0 : 0 < l.length) :
  SlG S w n bytes R (l.drop k) (.slice (some ⟨b, o + k * n, none⟩) (l.length - k) (c - k)) := by
 obtain ⟨a', b', o', cap, e, h6, h7, h8, h9, h10⟩ := h
 cases e
 obtain ⟨rfl, rfl⟩ : b = b' ∧ o = o' := by have := h8 (by omega); injection this with e; injection e with e1 e2; exact ⟨e1, e2⟩
 refine ⟨_, b, o + k * n, c - k, by rw [List.length_drop], by rw [List.length_drop]; omega, ?_, fun _ => rfl, fun _ => h9 h0, fun i hi => ?_⟩
 ·rw [List.length_drop]; exact Nat.le_trans (Nat.mul_le_mul_right _ (Nat.sub_le _ _)) h7
 ·rw [List.length_drop] at hi
  obtain ⟨f, hf, hr⟩ := h10 (k + i) (by omega);refine ⟨f, fun j hj => ?_, by rw [List.getElem_drop]; exact hr⟩;have := hf j hj;rw [Nat.add_mul] at this;rw [show o + k * n + i * n + j = o + (k * n + i * n) + j by omega];exact this
theorem SlG.flat {α : Type} {S : Nat → Prop} {w : World} {n bytes : Nat} {R : α → (Nat → Value) → Prop} {l : List α} {b o c len : Nat} (hn : 0 < n) (h : SlG S w n bytes R l (.slice (some ⟨b, o, none⟩) len c)) :
  len = l.length ∧ len ≤ c ∧ ∃ ys : List Value, ys.length = l.length * n ∧ (∀ m u, ys[m]? = some u → w.cell? ⟨b, o + m, none⟩ = some u) ∧ (∀ i (h : i < l.length), ∃ f : Nat → Value, (∀ j, j < n → ys[i * n + j]? = some (f j)) ∧ R l[i] f) ∧ (∀ u ∈ ys, ∃ i, ∃ (h : i < l.length) (f : Nat → Value) (j : Nat), j < n ∧ u = f j ∧ R l[i] f) := by
 obtain ⟨a', b', o', cap, e, h6, h7, h8, h9, h10⟩ := h
 cases e
 refine ⟨rfl, h6, ?_⟩;have hob : 0 < l.length → b = b' ∧ o = o' := fun h0 => by have := h8 (by omega); injection this with e; injection e with e1 e2; exact ⟨e1, e2⟩
 have hch : ∃ C : Nat → Nat → Value, ∀ i (h : i < l.length), (∀ j, j < n → w.cell? ⟨b', o' + i * n + j, none⟩ = some (C i j)) ∧ R l[i] (C i) := by
  refine ⟨fun i => if h : i < l.length then (h10 i h).choose else fun _ => .int .i64 0, fun i h => ?_⟩;simp only [dif_pos h]
  exact (h10 i h).choose_spec
 obtain ⟨C, hC⟩ := hch
 have hgm : ∀ (m : Nat) (u : Value), ((List.range (l.length * n)).map (fun m => C (m / n) (m % n)))[m]? = some u → ∃ i j, i < l.length ∧ j < n ∧ m = i * n + j ∧ u = C i j := fun m u hu => by
  have hm : m < l.length * n := by
   by_cases hm : m < l.length * n
   ·exact hm
   ·rw [List.getElem?_eq_none (by simp; omega)] at hu
    cases hu
  rw [List.getElem?_map, List.getElem?_range hm] at hu;refine ⟨m / n, m % n, Nat.div_lt_of_lt_mul (by rw [Nat.mul_comm]; exact hm), Nat.mod_lt _ hn, ?_, (Option.some.inj hu).symm⟩;rw [Nat.mul_comm]; exact (Nat.div_add_mod m n).symm
 refine ⟨(List.range (l.length * n)).map (fun m => C (m / n) (m % n)), by simp, fun m u hu => ?_, fun i hi => ⟨C i, fun j hj => ?_, (hC i hi).2⟩, fun u hu => ?_⟩
 ·obtain ⟨i, j, hi, hj, rfl, rfl⟩ := hgm m u hu
  obtain ⟨rfl, rfl⟩ := hob (by omega);rw [← Nat.add_assoc];exact (hC i hi).1 j hj
 ·obtain ⟨m1, m2⟩ := mod_of' (i := i) hj
  have hlt : i * n + j < l.length * n := by
   have : (i + 1) * n ≤ l.length * n := Nat.mul_le_mul_right _ hi;rw [Nat.succ_mul] at this; omega
  rw [List.getElem?_map, List.getElem?_range hlt, Option.map_some, m1, m2]
 ·obtain ⟨m, hm, rfl⟩ := List.getElem_of_mem hu
  obtain ⟨i, j, hi, hj, -, e⟩ := hgm m _ (List.getElem?_eq_getElem hm);exact ⟨i, hi, C i, j, hj, e, (hC i hi).2⟩
theorem own_manyB {α : Type} {K : Kd α} {S : Nat → Prop} {w : World} {base : Nat} {L m : List α} {lv x : Value} (hown : OwnK K S w base L lv) (hm : SlG S w K.n K.bytes (K.R S w) m x) (hS : ∀ k, S k → k < w.heap.size ∧ lv.ownBlock ≠ some k)
  (hbase : base ≤ w.heap.size) (hby : (L.length + m.length) * K.bytes ≤ 140737488355328) (h63 : L.length + m.length ≤ 140737488355328) (ty : TypeId) :
  ∃ (v' : Value) (w6 : World), (Builtin.append_ #[K.ST, K.ST] ty #[lv, x]).run Try.prog w = .ok v' w6 ∧ OwnK K S w6 base (L ++ m) v' ∧ w.grownBy w6 lv.ownBlock := by
 obtain ⟨i0, z, hi, hz0, hz1, hz2, hz3⟩ := K.info;obtain ⟨xs, hrow, hr⟩ := hown;have keep : ∀ w6 : World, w.grownBy w6 lv.ownBlock → ∀ k, S k → w6.heap[k]? = w.heap[k]? := fun w6 hg k hk => hg.block k (hS k hk).1 (fun e => (hS k hk).2 e.symm)
 obtain ⟨a, cap, rfl⟩ := SlG.form hm;rcases a with _ | ⟨b, o, sp⟩
 ·obtain ⟨a', b', o', cap', e, h6, h7, h8, h9, h10⟩ := id hm
  cases e
  have hc0 : cap = 0 := by
   by_cases hc : 0 < cap
   ·have := h8 hc; cases this
   ·omega
  subst hc0;obtain rfl : m = [] := List.length_eq_zero_iff.1 (by omega);have hrun := run_append_owned_none (P := Try.prog) (w := w) base K.ST ty K.T i0 K.n K.und hi lv L.length xs hrow
  exact ⟨lv, w, hrun, ⟨xs, by simpa using hrow, fun i hi' => by
   have hi2 : i < L.length := by simpa using hi'
   obtain ⟨c, hc, hR⟩ := hr i hi2
   exact ⟨c, hc, by simpa using hR⟩⟩, World.grownBy.refl w _⟩
 ·have hsp : sp = none ∨ m = [] ∧ cap = 0 := by
   obtain ⟨a', b', o', cap', e, h6, h7, h8, h9, h10⟩ := id hm
   cases e
   by_cases hc : 0 < cap
   ·have := h8 hc
    injection this with e; injection e with e1 e2 e3
    exact .inl e3
   ·exact .inr ⟨List.length_eq_zero_iff.1 (by omega), by omega⟩
  have main : ∀ (ys : List Value), ys.length = m.length * K.n → (∀ j u, ys[j]? = some u → w.cell? ((⟨b, o, sp⟩ : Addr).add j) = some u) → (∀ i (h : i < m.length), ∃ f : Nat → Value, (∀ j, j < K.n → ys[i * K.n + j]? = some (f j)) ∧ K.R S w m[i] f) → (∀ u ∈ ys, u.oneCell' = true) → m.length ≤ cap →
    ∃ (v' : Value) (w6 : World), (Builtin.append_ #[K.ST, K.ST] ty #[lv, .slice (some ⟨b, o, sp⟩) m.length cap]).run Try.prog w = .ok v' w6 ∧ OwnK K S w6 base (L ++ m) v' ∧ w.grownBy w6 lv.ownBlock := by
   intro ys hy1 hy2 hy3 hy4 hcap;obtain ⟨v', w6, hrun, h1, h2, _, h5⟩ := run_append_own_at (P := Try.prog) w base K.ST ty K.T i0 z K.n K.bytes K.und hi hz0 hz1 hz2 hz3 K.pos lv L.length xs hrow ⟨b, o, sp⟩ m.length cap ys hy1 hy2 hy4 (by unfold maxLen; omega) hby hbase;refine ⟨v', w6, hrun, ⟨xs ++ ys, by rw [List.length_append]; exact h1, fun i hi' => ?_⟩, h2⟩
   by_cases hlt : i < L.length
   ·obtain ⟨c', hc', hR⟩ := hr i hlt
    refine ⟨c', fun j hj => ?_, by rw [List.getElem_append_left hlt]; exact K.on (fun _ h => h) (keep w6 h2) hR⟩
    have hil : i * K.n + j < xs.length := by
     rw [hrow.1];have : (i + 1) * K.n ≤ L.length * K.n := Nat.mul_le_mul_right _ hlt;rw [Nat.succ_mul] at this; omega
    rw [List.getElem?_append_left hil]; exact hc' j hj
   ·have hi2 : i - L.length < m.length := by rw [List.length_append] at hi'; omega
    obtain ⟨c, hc, hR⟩ := hy3 (i - L.length) hi2;refine ⟨c, fun j hj => ?_, by rw [List.getElem_append_right (by omega)]; exact K.on (fun _ h => h) (keep w6 h2) hR⟩;have hge : L.length * K.n ≤ i * K.n := Nat.mul_le_mul_right _ (by omega);rw [List.getElem?_append_right (by rw [hrow.1]; omega), hrow.1, show i * K.n + j - L.length * K.n = (i - L.length) * K.n + j by rw [Nat.sub_mul]; omega];exact hc j hj
  rcases hsp with rfl | ⟨rfl, rfl⟩
  ·obtain ⟨-, f2, ys, f3, f4, f5, f6⟩ := SlG.flat K.pos hm
   exact main ys f3 (fun j u hu => by rw [add_lit']; exact f4 j u hu) f5 (fun u hu => by
    obtain ⟨i, hi', f, j, hj, rfl, hR⟩ := f6 u hu
    exact K.one hR j hj) f2
  ·exact main [] (by simp) (fun j u hu => by simp at hu) (fun i h => by simp at h) (fun u hu => by cases hu) (Nat.le_refl _)
theorem OwnK.nil {α : Type} {K : Kd α} (S : Nat → Prop) (w : World) (base : Nat) : OwnK K S w base [] (.slice none 0 0) := ⟨[], World.ownsRow_nil _ _ _ _, fun i hi => by simp at hi⟩
theorem OwnK.slgB {α : Type} {K : Kd α} {S S' : Nat → Prop} {w : World} {base : Nat} {l : List α} {v : Value} (h : OwnK K S w base l v) (hSS : ∀ k, S k → S' k) (hS : ∀ k, base ≤ k → k < w.heap.size → S' k) (hby : l.length * K.bytes ≤ 140737488355328) : SlG S' w K.n K.bytes (K.R S' w) l v := by
 obtain ⟨xs, ⟨hlen, hown⟩, hr⟩ := h;rcases hown with ⟨rfl, hn⟩ | ⟨g, cap, cur, rfl, hbg, hh, hnc, hcm, hcs, htk⟩
 ·obtain rfl : l = [] := List.length_eq_zero_iff.1 hn
  exact ⟨none, 0, 0, 0, rfl, Nat.le_refl _, by simp, fun h => by omega, fun h => by simp at h, fun i hi => by simp at hi⟩
 ·have hgl := (Array.getElem?_eq_some_iff.1 hh).1
  refine ⟨_, g, 0, cap, rfl, hnc, hby, fun _ => rfl, fun _ => hS g hbg hgl, fun i hi => ?_⟩;obtain ⟨c, hc, hR⟩ := hr i hi;refine ⟨c, fun j hj => ?_, K.on hSS (fun _ _ => rfl) hR⟩;have h1 := hc j hj;rw [← htk, List.getElem?_take] at h1
  have hlt : i * K.n + j < l.length * K.n := by
   have : (i + 1) * K.n ≤ l.length * K.n := Nat.mul_le_mul_right _ hi;rw [Nat.succ_mul] at this; omega
  rw [if_pos hlt] at h1;rw [show 0 + i * K.n + j = i * K.n + j by omega];exact cell_of_block' hh _ (by rw [← Array.getElem?_toList]; exact h1)
theorem OwnK.slg' {α : Type} {K : Kd α} {S S' : Nat → Prop} {w : World} {base : Nat} {l : List α} {v : Value} (h : OwnK K S w base l v) (hSS : ∀ k, S k → S' k) (hS : ∀ k, base ≤ k → k < w.heap.size → S' k) (hl : l.length ≤ 100000) : SlG S' w K.n K.bytes (K.R S' w) l v := by
 have hby : l.length * K.bytes ≤ 140737488355328 := by
  have := Nat.mul_le_mul hl K.few;omega
 exact OwnK.slgB h hSS hS hby
end Go.Proofs.Ytpnaegohjbaggaa
namespace Go.Proofs.Ytpnaegohjbaggaa
open Go.RowKit
theorem step_append_by {P : Program} {ops : Array Oper} {o : Oper} {a : Act} {w w' : World} {K : Act → World → Prop} {Q : Exit → Act → World → Prop} {E : Prop} (hgd : o.guard = none) (s x : Operand) (t : TypeId)
  (ho : o.op = .call { callee := .builtin .append, args := #[s, x], argTypes := #[t, t] }) {v xv v' : Value} (hs : a.eval s = v) (hx : a.eval x = xv) (hrun : (Builtin.append_ #[t, t] o.type #[v, xv]).run P w = .ok v' w')
  (h : K (a.put o.dst v') w') : if Region.wanted o (yielded ops a.tmps) = true then Oper.wp P o a w K Q else E := by
 have hw : Region.wanted o (yielded ops a.tmps) = true := by simp [Region.wanted, hgd]
 rw [if_pos hw];unfold Oper.wp execOp;simp only [ho, resolve, invoke, builtin, Sem.run_bind, Sem.run_pure, Result.andThen_ok, List.map_toArray, List.map_cons, List.map_nil, hs, hx, hrun]
 exact h
end Go.Proofs.Ytpnaegohjbaggaa
namespace Go.Proofs.Ytpnaegohjbaggaa
open Go
theorem nn {i j : Nat} {q : Prop} (h : Nat.beq i j = false := by rfl) : i = j → q := fun e => by
 rw [e, Nat.beq_refl] at h; cases h
theorem countP_lt {p q : Nat → Bool} {i : Nat} (hpq : ∀ j, q j = true → p j = true) (hp : p i = true) (hq : q i = false) : ∀ l : List Nat, i ∈ l → l.countP q < l.countP p
 | [], hi => by cases hi
 | x :: l, hi => by
  rw [List.countP_cons, List.countP_cons];have hle : l.countP q ≤ l.countP p := List.countP_mono_left (fun j _ => hpq j)
  by_cases e : x = i
  ·subst e; rw [hp, hq]; simp; omega
  ·have hm : i ∈ l := by
    rcases List.mem_cons.1 hi with h | h
    ·exact absurd h.symm e
    ·exact h
   have := countP_lt hpq hp hq l hm
   have h2 : (if q x = true then 1 else 0) ≤ (if p x = true then 1 else 0) := by
    by_cases h : q x = true
    ·rw [if_pos h, if_pos (hpq x h)]; exact Nat.le_refl _
    ·rw [if_neg h]; omega
   omega
section
variable {P : Program} {ops : Array Oper} {Q : Exit → Act → World → Prop} {md : Region.Mode}
theorem getD_lt {listed : Array Bool} {i : Nat} (h : listed.getD i true = false) : i < listed.size := by
 rcases Nat.lt_or_ge i listed.size with h' | h'
 ·exact h'
 ·simp [Array.getElem?_eq_none h'] at h
theorem wpAny_inv (J : Array Bool → Act → World → Prop)
  (hstep : ∀ listed a w i, J listed a w → i ∈ Region.ready md ops listed → wpOp P ops Q i (fun a' w' => J (listed.setIfInBounds i true) a' w') a w)
  (hend : ∀ listed a w, J listed a w → Region.ready md ops listed = [] → Q .normal a w) :
  ∀ (fuel : Nat) (listed : Array Bool) (a : Act) (w : World), (List.range ops.size).countP (fun j => !listed.getD j true) ≤ fuel → J listed a w → wpAny P md ops Q fuel listed a w
 | 0, listed, a, w, hc, hJ => by
  have hr : Region.ready md ops listed = [] := by
   apply List.eq_nil_iff_forall_not_mem.2
   intro i hi;obtain ⟨h1, o, ho, -⟩ := mem_ready.1 hi;have : 0 < (List.range ops.size).countP (fun j => !listed.getD j true) := List.countP_pos_iff.2 ⟨i, List.mem_range.2 (Array.getElem?_eq_some_iff.1 ho).1, by rw [h1]; rfl⟩;omega
  exact ⟨hr, hend _ _ _ hJ hr⟩
 | fuel + 1, listed, a, w, hc, hJ => by
  refine ⟨hend _ _ _ hJ, fun i hi => wpOp_mono (fun a' w' h => wpAny_inv J hstep hend fuel _ a' w' ?_ h) (hstep _ _ _ _ hJ hi)⟩;obtain ⟨h1, o, ho, -⟩ := mem_ready.1 hi;have hin := getD_lt h1
  have := countP_lt (p := fun j => !listed.getD j true) (q := fun j => !(listed.setIfInBounds i true).getD j true) (i := i) (fun j hj => by
    by_cases e : i = j
    ·subst e; simp [h1]
    ·rw [getD_set_ne true e] at hj; exact hj) (by simp [h1]) (by simp [hin]) _ (List.mem_range.2 (Array.getElem?_eq_some_iff.1 ho).1)
  omega
theorem none_listed (m j : Nat) : (Array.replicate m false).getD j false = false := by
 rcases Nat.lt_or_ge j m with h | h
 ·simp [h]
 ·simp [h]
structure Off (ops : Array Oper) (b a : Act) : Prop where
 same : a.defers = b.defers
 size : a.tmps.size = b.tmps.size
 off : ∀ k, (∀ (i : Nat) (o : Oper), ops[i]? = some o → o.dst ≠ some k) → a.tmps[k]? = b.tmps[k]?
theorem Off.refl (ops : Array Oper) (a : Act) : Off ops a a := ⟨rfl, rfl, fun _ _ => rfl⟩
theorem Off.put {b a : Act} (h : Off ops b a) {i : Nat} {o : Oper} {d : Tmp} (ho : ops[i]? = some o) (hd : o.dst = some d) (v : Value) : Off ops b (a.put (some d) v) :=
 ⟨h.same, by show (a.tmps.setIfInBounds d v).size = _; rw [Array.size_setIfInBounds]; exact h.size, fun k hk => by
  have hne : d ≠ k := fun e => hk i o ho (by rw [hd, e])
  show (a.tmps.setIfInBounds d v)[k]? = _
  rw [Array.getElem?_setIfInBounds, if_neg hne]
  exact h.off k hk⟩
theorem sets_eq : ∀ (dvs : List (Nat × Value)) (x b : Array Value), x.size = b.size → (∀ k, k ∉ dvs.map (·.1) → x[k]? = b[k]?) → (∀ p ∈ dvs, x[p.1]? = some p.2) → x = dvs.foldl (fun y p => y.setIfInBounds p.1 p.2) b
 | [], x, b, _, h, _ => by
  apply Array.ext_getElem?
  intro k; exact h k (by simp)
 | p :: dvs, x, b, hs, h, hv => by
  rw [List.foldl_cons];refine sets_eq dvs x _ (by rw [Array.size_setIfInBounds]; exact hs) (fun k hk => ?_) (fun q hq => hv q (List.mem_cons_of_mem _ hq));rw [Array.getElem?_setIfInBounds]
  by_cases e : p.1 = k
  ·subst e
   have h1 := hv p (by simp);rw [if_pos rfl, if_pos (by rw [← hs]; exact (Array.getElem?_eq_some_iff.1 h1).1)];exact h1
  ·rw [if_neg e]
   exact h k (by simp only [List.map_cons, List.mem_cons, not_or]; exact ⟨fun h => e h.symm, hk⟩)
theorem Off.sets {b a : Act} (h : Off ops b a) (dvs : List (Nat × Value)) (hd : (ops.toList.all fun o => match o.dst with | some d => (dvs.map (·.1)).contains d | none => true) = true) (hv : ∀ p ∈ dvs, a.tmps[p.1]? = some p.2) :
  a = { b with tmps := dvs.foldl (fun y p => y.setIfInBounds p.1 p.2) b.tmps } := by
 cases a with
 | mk t ds =>
  have e1 : ds = b.defers := h.same;subst e1
  congr 1
  refine sets_eq dvs t b.tmps h.size (fun k hk => h.off k fun i o ho hdk => hk ?_) hv;rw [List.all_eq_true] at hd;have := hd o (by rw [Array.mem_toList_iff]; exact Array.mem_of_getElem? ho);rw [hdk] at this
  simpa using this
end
end Go.Proofs.Ytpnaegohjbaggaa
namespace Go.Proofs.Ytpnaegohjbaggaa
open Go
section
variable {P : Program} {ops : Array Oper} {Q : Exit → Act → World → Prop} {md : Region.Mode}
def okOpsG (ops : Array Oper) (n : Nat) : Bool :=
 (List.range ops.size).all fun i => match ops[i]? with
  | none => true
  | some o => (match o.dst with | some d => decide (d < n) | none => false) && o.after.all (fun e => decide (e.on < i)) &&
   (List.range ops.size).all fun j => j == i || (match ops[j]? with | some o' => !(o'.dst == o.dst) | none => true)
theorem okOpsG.at {n i : Nat} {o : Oper} (h : okOpsG ops n = true) (ho : ops[i]? = some o) : (∃ d, o.dst = some d ∧ d < n) ∧ (∀ e ∈ o.after, e.on < i) ∧ ∀ j o', ops[j]? = some o' → j ≠ i → o'.dst ≠ o.dst := by
 unfold okOpsG at h;rw [List.all_eq_true] at h;have h1 := h i (List.mem_range.2 (Array.getElem?_eq_some_iff.1 ho).1);rw [ho] at h1;simp only [Bool.and_eq_true] at h1
 obtain ⟨⟨g2, g3⟩, g4⟩ := h1;refine ⟨?_, ?_, ?_⟩
 ·split at g2
  ·rename_i d hd; exact ⟨d, hd, of_decide_eq_true g2⟩
  ·cases g2
 ·intro e he
  exact of_decide_eq_true (Array.all_eq_true_iff_forall_mem.1 g3 e he)
 ·intro j o' hj hne he
  rw [List.all_eq_true] at g4;have h2 := g4 j (List.mem_range.2 (Array.getElem?_eq_some_iff.1 hj).1);rw [hj] at h2;simp [hne, he] at h2
def StepG (P : Program) (md : Region.Mode) (ops : Array Oper) (A : Act) (F : World → Nat → Value → Prop) (G : World → Prop) (Q : Exit → Act → World → Prop) (i : Nat) (o : Oper) : Prop :=
 ∀ (a : Act) (w : World), Off ops A a → G w →
  (∀ (j : Nat) (o' : Oper) (d : Tmp), (o.after.any fun e => Region.binds md e && e.on == j) = true → ops[j]? = some o' → o'.dst = some d → ∃ v, a.tmps[d]? = some v ∧ F w j v) →
  ∀ K : Act → World → Prop, Shut (∀ v w', G w' → F w' i v → (∀ j u, F w j u → F w' j u) → K (a.put o.dst v) w') → if Region.wanted o (yielded ops a.tmps) = true then Oper.wp P o a w K Q else K (a.put o.dst undef) w
def StepsG (P : Program) (md : Region.Mode) (ops : Array Oper) (A : Act) (F : World → Nat → Value → Prop) (G : World → Prop) (Q : Exit → Act → World → Prop) : Nat → List Oper → Prop
 | _, [] => True
 | i, o :: os => StepG P md ops A F G Q i o ∧ StepsG P md ops A F G Q (i + 1) os
theorem StepsG.at {A : Act} {F : World → Nat → Value → Prop} {G : World → Prop} : ∀ (os : List Oper) (k i : Nat) (o : Oper), StepsG P md ops A F G Q k os → os[i]? = some o → StepG P md ops A F G Q (k + i) o
 | [], _, _, _, _, h => by simp at h
 | x :: os, k, 0, o, hs, h => by simp at h; subst h; exact hs.1
 | x :: os, k, i + 1, o, hs, h => by
  have := StepsG.at os (k + 1) i o hs.2 (by simpa using h);rw [show k + (i + 1) = k + 1 + i by omega]; exact this
theorem wp_region_factsG {id : Nat} {A : Act} {w : World} (hm : P.follows .mixedOrders = true) (n : Nat) (hn : A.tmps.size = n) (hok : okOpsG ops n = true) (F : World → Nat → Value → Prop) (G : World → Prop) (hG : G w.drew)
  (hsteps : StepsG P .any ops A F G Q 0 ops.toList)
  (hend : ∀ a w, Off ops A a → G w → (∀ (i : Nat) (o : Oper) (d : Tmp), ops[i]? = some o → o.dst = some d → ∃ v, a.tmps[d]? = some v ∧ F w i v) → Q .normal a w) :
  (Code.region id ops true).wp P Q A w := by
 refine wp_region_any hm (wpAny_inv (J := fun listed a w => listed.size = ops.size ∧ Off ops A a ∧ G w ∧ ∀ (i : Nat) (o : Oper) (d : Tmp), ops[i]? = some o → o.dst = some d → listed.getD i false = true → ∃ v, a.tmps[d]? = some v ∧ F w i v) ?_ ?_ _ _ _ _ ?_ ?_)
 ·rintro listed a w i ⟨hsz, hoff, hg, hf⟩ hi
  obtain ⟨h1, o, ho, hall⟩ := mem_ready.1 hi;obtain ⟨⟨d, k2, k3⟩, -, k4⟩ := okOpsG.at hok ho;have hin := getD_lt h1;have hst := StepsG.at ops.toList 0 i o hsteps (by simpa using ho);rw [Nat.zero_add] at hst;unfold wpOp;rw [ho];simp only
  have key := hst a w hoff hg (fun j o' d' hj ho' hd' => by
   obtain ⟨e, he, hb⟩ := Array.any_eq_true'.1 hj;simp only [Bool.and_eq_true, beq_iff_eq] at hb
   exact hf j o' d' ho' hd' (by rw [← hb.2]; exact hall e he hb.1)) (fun a' w' => (listed.setIfInBounds i true).size = ops.size ∧ Off ops A a' ∧ G w' ∧ ∀ (j : Nat) (o : Oper) (d : Tmp), ops[j]? = some o → o.dst = some d → (listed.setIfInBounds i true).getD j false = true → ∃ v, a'.tmps[d]? = some v ∧ F w' j v) (fun v w' hg' hf' hstay => by
   rw [k2];refine ⟨by rw [Array.size_setIfInBounds]; exact hsz, hoff.put ho k2 v, hg', fun j o' d' ho' hd' hl => ?_⟩
   by_cases e : j = i
   ·subst e
    obtain rfl : o' = o := Option.some.inj (ho'.symm.trans ho);obtain rfl : d' = d := Option.some.inj (hd'.symm.trans k2);refine ⟨v, ?_, hf'⟩
    show (a.tmps.setIfInBounds d' v)[d']? = _
    rw [Array.getElem?_setIfInBounds, if_pos rfl, if_pos (by rw [hoff.size, hn]; exact k3)]
   ·rw [getD_set_ne false (fun h => e h.symm)] at hl
    obtain ⟨u, hu, hF⟩ := hf j o' d' ho' hd' hl;refine ⟨u, ?_, hstay j u hF⟩;have hne : d ≠ d' := fun h => k4 j o' ho' e (by rw [hd', k2, h])
    show (a.tmps.setIfInBounds d v)[d']? = _
    rw [Array.getElem?_setIfInBounds, if_neg hne]; exact hu)
  split
  ·rename_i hw; rw [if_pos hw] at key; exact .inl key
  ·rename_i hw; rw [if_neg hw] at key; exact key
 ·rintro listed a w ⟨hsz, hoff, hg, hf⟩ hr
  refine hend a w hoff hg fun i o d ho hd => hf i o d ho hd ?_
  have all : ∀ i, i < ops.size → listed.getD i false = true := by
   intro i
   induction i using Nat.strongRecOn with
   | _ i ih =>
    intro hi
    cases hl : listed.getD i true with
    | true => simpa [hsz, hi] using hl
    | false =>
     have ho : ops[i]? = some ops[i] := Array.getElem?_eq_getElem hi;have : i ∈ Region.ready .any ops listed := mem_ready.2 ⟨hl, ops[i], ho, fun e he _ => ih e.on ((okOpsG.at hok ho).2.1 e he) (Nat.lt_trans ((okOpsG.at hok ho).2.1 e he) hi)⟩;rw [hr] at this; cases this
  exact all i (Array.getElem?_eq_some_iff.1 ho).1
 ·exact Nat.le_trans List.countP_le_length (by simp)
 ·exact ⟨by simp, Off.refl _ _, hG, fun i o d _ _ hl => by rw [none_listed] at hl; cases hl⟩
theorem off_at {b a : Act} (h : Off ops b a) (k : Nat) {v : Value} (hd : (ops.toList.all fun o => o.dst != some k) = true) (hv : b.tmps[k]? = some v) : a.tmps[k]? = some v :=
 (h.off k fun i o ho he => by
  rw [List.all_eq_true] at hd;have := hd o (by rw [Array.mem_toList_iff]; exact Array.mem_of_getElem? ho)
  rw [he] at this; simp at this).trans hv
end
end Go.Proofs.Ytpnaegohjbaggaa
