/-
  OwnKit, RowMany, StepBy, Region, RegionG, RegionL, RegionP, SixGrow, RowManyS, RowTwo, RowMine, List
-/
import Derived.Test.YtbkligcfllakeaaKE01
import Derived.Deep.RegionLaw
import Derived.Orders
import Derived.Deep.RegionHeld
import Derived.WalkKit
import Derived.WalkSpells
import Derived.WalkLawsBesides
namespace Go.Proofs.Ytbkligcfllakeaa
open Go.RowKit
structure Kd (α : Type) where
 T : TypeId
 ST : TypeId
 n : Nat
 bytes : Nat
 R : (Nat → Prop) → World → α → (Nat → Value) → Prop
 pos : 0 < n
 few : bytes ≤ 1000
 on : ∀ {S S' : Nat → Prop} {w w' : World} {x : α} {c : Nat → Value}, (∀ k, S k → S' k) → (∀ k, S k → w'.heap[k]? = w.heap[k]?) → R S w x c → R S' w' x c
 one : ∀ {S : Nat → Prop} {w : World} {x : α} {c : Nat → Value}, R S w x c → ∀ j, j < n → (c j).oneCell' = true
 und : Try.prog.underlying ST = some (.slice T)
 info : ∃ (i : TypeInfo) (z : Value), Try.prog.info? T = some i ∧ i.zero = some z ∧ i.size = n ∧ i.bytes = bytes ∧ z.cells.size = n
theorem ownsRow_on {w w' : World} {base : Nat} {e : TypeId} {n k : Nat} {v : Value} {xs : List Value} (h : w.ownsRow base e n v k xs) (hw : ∀ g, base ≤ g → g < w.heap.size → v.ownBlock = some g → w'.heap[g]? = w.heap[g]?) : w'.ownsRow base e n v k xs := by
 refine ⟨h.1, ?_⟩;rcases h.2 with hn | ⟨g, cap, cur, hv, hb, hg, rest⟩
 ·exact .inl hn
 ·subst hv
  exact .inr ⟨g, cap, cur, rfl, hb, (hw g hb (Array.getElem?_eq_some_iff.1 hg).1 rfl).trans hg, rest⟩
theorem ownsRow_down {w : World} {base base' : Nat} {e : TypeId} {n k : Nat} {v : Value} {xs : List Value} (h : w.ownsRow base e n v k xs) (hb : base' ≤ base) : w.ownsRow base' e n v k xs := by
 refine ⟨h.1, ?_⟩;rcases h.2 with hn | ⟨g, cap, cur, hv, hg, rest⟩
 ·exact .inl hn
 ·exact .inr ⟨g, cap, cur, hv, Nat.le_trans hb hg, rest⟩
section
variable {α : Type} (K : Kd α)
def OwnK (S : Nat → Prop) (w : World) (base : Nat) (l : List α) (v : Value) : Prop :=
 ∃ xs, w.ownsRow base K.T K.n v l.length xs ∧ ∀ i (h : i < l.length), ∃ c : Nat → Value, (∀ j, j < K.n → xs[i * K.n + j]? = some (c j)) ∧ K.R S w l[i] c
variable {K}
theorem OwnK.form {S : Nat → Prop} {w : World} {base : Nat} {l : List α} {v : Value} (h : OwnK K S w base l v) : ∃ a cap, v = .slice a l.length cap := by
 obtain ⟨xs, ⟨-, ho⟩, -⟩ := h;rcases ho with ⟨rfl, hn⟩ | ⟨g, cap, cur, rfl, -⟩
 ·exact ⟨none, 0, by rw [hn]⟩
 ·exact ⟨_, _, rfl⟩
theorem OwnK.lies {S : Nat → Prop} {w : World} {base : Nat} {l : List α} {v : Value} (h : OwnK K S w base l v) (k : Nat) (hk : v.ownBlock = some k) : base ≤ k ∧ k < w.heap.size := by
 obtain ⟨xs, ⟨_, hown⟩, _⟩ := h;rcases hown with ⟨rfl, hn⟩ | ⟨g, cap, cur, rfl, hbg, hh, _⟩
 ·simp [Value.ownBlock] at hk
 ·simp [Value.ownBlock] at hk
  subst hk;exact ⟨hbg, (Array.getElem?_eq_some_iff.1 hh).1⟩
theorem OwnK.on {S S' : Nat → Prop} {w w' : World} {base : Nat} {l : List α} {v : Value} (h : OwnK K S w base l v) (hS : ∀ k, S k → S' k) (hw : ∀ k, S k → w'.heap[k]? = w.heap[k]?) (ho : ∀ k, base ≤ k → k < w.heap.size → v.ownBlock = some k → w'.heap[k]? = w.heap[k]?) : OwnK K S' w' base l v := by
 obtain ⟨xs, hown, hr⟩ := h;refine ⟨xs, ownsRow_on hown ho, fun i hi => ?_⟩;obtain ⟨c, hc, hR⟩ := hr i hi;exact ⟨c, hc, K.on hS hw hR⟩
end
theorem info_of {T : TypeId} {n bytes : Nat} (h : (Try.prog.info? T).map (fun i => (i.zero.map (fun z => z.cells.size), i.size, i.bytes)) = some (some n, n, bytes)) : ∃ (i : TypeInfo) (z : Value), Try.prog.info? T = some i ∧ i.zero = some z ∧ i.size = n ∧ i.bytes = bytes ∧ z.cells.size = n := by
 match hi : Try.prog.info? T, h with
 | some i, h =>
  simp only [Option.map_some, Option.some.injEq, Prod.mk.injEq] at h
  obtain ⟨h1, h2, h3⟩ := h
  match hz : i.zero, h1 with
  | some z, h1 => exact ⟨i, z, rfl, hz, h2, h3, by simpa using h1⟩
def kdTm : Kd Tm where
 T := 29
 ST := 24
 n := 7
 bytes := 104
 R := fun S w x c => RepM S w x (c 0) (c 1) (c 2) (c 3) (c 4) (c 5) (c 6)
 pos := by omega
 few := by omega
 on := fun hS hw h => RepM.on hS hw _ h
 one := fun h j hj => by
  obtain ⟨fa, fc, ga, gc, e0, e1, e2, e3, e4, e5, e6⟩ := h.form
  match j, hj with
  | 0, _ => rw [e0]; rfl
  | 1, _ => rw [e1]; rfl
  | 2, _ => rw [e2]; rfl
  | 3, _ => rw [e3]; rfl
  | 4, _ => rw [e4]; rfl
  | 5, _ => rw [e5]; rfl
  | 6, _ => rw [e6]; rfl
 und := Try.underlying24
 info := info_of (by kernel_rfl)
def kdV : Kd V where
 T := 27
 ST := 22
 n := 4
 bytes := 56
 R := fun S w x c => RepG S w x (c 0) (c 1) (c 2) (c 3)
 pos := by omega
 few := by omega
 on := fun hS hw h => RepG.on hS hw _ h
 one := fun h j hj => by
  obtain ⟨ga, gc, e0, e1, e2, e3⟩ := h.form
  match j, hj with
  | 0, _ => rw [e0]; rfl
  | 1, _ => rw [e1]; rfl
  | 2, _ => rw [e2]; rfl
  | 3, _ => rw [e3]; rfl
 und := Try.underlying22
 info := info_of (by kernel_rfl)
end Go.Proofs.Ytbkligcfllakeaa
namespace Go.Proofs.Ytbkligcfllakeaa
open Go.RowKit
theorem mod_of' {i j n : Nat} (hj : j < n) : (i * n + j) / n = i ∧ (i * n + j) % n = j := by
 have hn : 0 < n := by omega
 constructor
 ·rw [Nat.mul_comm, Nat.mul_add_div hn, Nat.div_eq_of_lt hj, Nat.add_zero]
 ·rw [Nat.mul_comm, Nat.mul_add_mod, Nat.mod_eq_of_lt hj]
theorem SlG.behind {α : Type} {S : Nat → Prop} {w : World} {n bytes : Nat} {R : α → (Nat → Value) → Prop} {l : List α} {b o c len : Nat} (h : SlG S w n bytes R l (.slice (some ⟨b, o, none⟩) len c)) {k : Nat} (hk : k ≤ l.length) (h0 : 0 < l.length) :
  SlG S w n bytes R (l.drop k) (.slice (some ⟨b, o + k * n, none⟩) (l.length - k) (c - k)) := by
 obtain ⟨a', b', o', cap, e, h6, h7, h8, h9, h10⟩ := h
 cases e
 obtain ⟨rfl, rfl⟩ : b = b' ∧ o = o' := by have := h8 (by omega); injection this with e; injection e with e1 e2; exact ⟨e1, e2⟩
 refine ⟨_, b, o + k * n, c - k, by rw [List.length_drop], by rw [List.length_drop]; omega, ?_, fun _ => rfl, fun _ => h9 h0, fun i hi => ?_⟩
 ·rw [List.length_drop]; exact Nat.le_trans (Nat.mul_le_mul_right _ (Nat.sub_le _ _)) h7
 ·rw [List.length_drop] at hi
  obtain ⟨f, hf, hr⟩ := h10 (k + i) (by omega);refine ⟨f, fun j hj => ?_, by rw [List.getElem_drop]; exact hr⟩;have := hf j hj;rw [Nat.add_mul] at this;rw [show o + k * n + i * n + j = o + (k * n + i * n) + j by omega];exact this
theorem SlG.flat {α : Type} {S : Nat → Prop} {w : World} {n bytes : Nat} {R : α → (Nat → Value) → Prop} {l : List α} {b o c len : Nat} (hn : 0 < n) (h : SlG S w n bytes R l (.slice (some ⟨b, o, none⟩) len c)) :
  len = l.length ∧ len ≤ c ∧ ∃ ys : List Value, ys.length = l.length * n ∧ (∀ m u, ys[m]? = some u → w.cell? ⟨b, o + m, none⟩ = some u) ∧ (∀ i (h : i < l.length), ∃ f : Nat → Value, (∀ j, j < n → ys[i * n + j]? = some (f j)) ∧ R l[i] f) ∧ (∀ u ∈ ys, ∃ i, ∃ (h : i < l.length) (f : Nat → Value) (j : Nat), j < n ∧ u = f j ∧ R l[i] f) := by
 obtain ⟨a', b', o', cap, e, h6, h7, h8, h9, h10⟩ := h
 cases e
 refine ⟨rfl, h6, ?_⟩;have hob : 0 < l.length → b = b' ∧ o = o' := fun h0 => by have := h8 (by omega); injection this with e; injection e with e1 e2; exact ⟨e1, e2⟩
 have hch : ∃ C : Nat → Nat → Value, ∀ i (h : i < l.length), (∀ j, j < n → w.cell? ⟨b', o' + i * n + j, none⟩ = some (C i j)) ∧ R l[i] (C i) := by
  refine ⟨fun i => if h : i < l.length then (h10 i h).choose else fun _ => .int .i64 0, fun i h => ?_⟩;simp only [dif_pos h]
  exact (h10 i h).choose_spec
 obtain ⟨C, hC⟩ := hch
 have hgm : ∀ (m : Nat) (u : Value), ((List.range (l.length * n)).map (fun m => C (m / n) (m % n)))[m]? = some u → ∃ i j, i < l.length ∧ j < n ∧ m = i * n + j ∧ u = C i j := fun m u hu => by
  have hm : m < l.length * n := by
   by_cases hm : m < l.length * n
   ·exact hm
   ·rw [List.getElem?_eq_none (by simp; omega)] at hu
    cases hu
  rw [List.getElem?_map, List.getElem?_range hm] at hu;refine ⟨m / n, m % n, Nat.div_lt_of_lt_mul (by rw [Nat.mul_comm]; exact hm), Nat.mod_lt _ hn, ?_, (Option.some.inj hu).symm⟩;rw [Nat.mul_comm]; exact (Nat.div_add_mod m n).symm
 refine ⟨(List.range (l.length * n)).map (fun m => C (m / n) (m % n)), by simp, fun m u hu => ?_, fun i hi => ⟨C i, fun j hj => ?_, (hC i hi).2⟩, fun u hu => ?_⟩
 ·obtain ⟨i, j, hi, hj, rfl, rfl⟩ := hgm m u hu
  obtain ⟨rfl, rfl⟩ := hob (by omega);rw [← Nat.add_assoc];exact (hC i hi).1 j hj
 ·obtain ⟨m1, m2⟩ := mod_of' (i := i) hj
  have hlt : i * n + j < l.length * n := by
   have : (i + 1) * n ≤ l.length * n := Nat.mul_le_mul_right _ hi;rw [Nat.succ_mul] at this; omega
  rw [List.getElem?_map, List.getElem?_range hlt, Option.map_some, m1, m2]
 ·obtain ⟨m, hm, rfl⟩ := List.getElem_of_mem hu
  obtain ⟨i, j, hi, hj, -, e⟩ := hgm m _ (List.getElem?_eq_getElem hm);exact ⟨i, hi, C i, j, hj, e, (hC i hi).2⟩
theorem own_manyB {α : Type} {K : Kd α} {S : Nat → Prop} {w : World} {base : Nat} {L m : List α} {lv x : Value} (hown : OwnK K S w base L lv) (hm : SlG S w K.n K.bytes (K.R S w) m x) (hS : ∀ k, S k → k < w.heap.size ∧ lv.ownBlock ≠ some k)
  (hbase : base ≤ w.heap.size) (hby : (L.length + m.length) * K.bytes ≤ 140737488355328) (h63 : L.length + m.length ≤ 140737488355328) (ty : TypeId) :
  ∃ (v' : Value) (w6 : World), (Builtin.append_ #[K.ST, K.ST] ty #[lv, x]).run Try.prog w = .ok v' w6 ∧ OwnK K S w6 base (L ++ m) v' ∧ w.grownBy w6 lv.ownBlock := by
 obtain ⟨i0, z, hi, hz0, hz1, hz2, hz3⟩ := K.info;obtain ⟨xs, hrow, hr⟩ := hown;have keep : ∀ w6 : World, w.grownBy w6 lv.ownBlock → ∀ k, S k → w6.heap[k]? = w.heap[k]? := fun w6 hg k hk => hg.block k (hS k hk).1 (fun e => (hS k hk).2 e.symm)
 obtain ⟨a, cap, rfl⟩ := SlG.form hm;rcases a with _ | ⟨b, o, sp⟩
 ·obtain ⟨a', b', o', cap', e, h6, h7, h8, h9, h10⟩ := id hm
  cases e
  have hc0 : cap = 0 := by
   by_cases hc : 0 < cap
   ·have := h8 hc; cases this
   ·omega
  subst hc0;obtain rfl : m = [] := List.length_eq_zero_iff.1 (by omega);have hrun := run_append_owned_none (P := Try.prog) (w := w) base K.ST ty K.T i0 K.n K.und hi lv L.length xs hrow
  exact ⟨lv, w, hrun, ⟨xs, by simpa using hrow, fun i hi' => by
   have hi2 : i < L.length := by simpa using hi'
   obtain ⟨c, hc, hR⟩ := hr i hi2
   exact ⟨c, hc, by simpa using hR⟩⟩, World.grownBy.refl w _⟩
 ·have hsp : sp = none ∨ m = [] ∧ cap = 0 := by
   obtain ⟨a', b', o', cap', e, h6, h7, h8, h9, h10⟩ := id hm
   cases e
   by_cases hc : 0 < cap
   ·have := h8 hc
    injection this with e; injection e with e1 e2 e3
    exact .inl e3
   ·exact .inr ⟨List.length_eq_zero_iff.1 (by omega), by omega⟩
  have main : ∀ (ys : List Value), ys.length = m.length * K.n → (∀ j u, ys[j]? = some u → w.cell? ((⟨b, o, sp⟩ : Addr).add j) = some u) → (∀ i (h : i < m.length), ∃ f : Nat → Value, (∀ j, j < K.n → ys[i * K.n + j]? = some (f j)) ∧ K.R S w m[i] f) → (∀ u ∈ ys, u.oneCell' = true) → m.length ≤ cap →
    ∃ (v' : Value) (w6 : World), (Builtin.append_ #[K.ST, K.ST] ty #[lv, .slice (some ⟨b, o, sp⟩) m.length cap]).run Try.prog w = .ok v' w6 ∧ OwnK K S w6 base (L ++ m) v' ∧ w.grownBy w6 lv.ownBlock := by
   intro ys hy1 hy2 hy3 hy4 hcap;obtain ⟨v', w6, hrun, h1, h2, _, h5⟩ := run_append_own_at (P := Try.prog) w base K.ST ty K.T i0 z K.n K.bytes K.und hi hz0 hz1 hz2 hz3 K.pos lv L.length xs hrow ⟨b, o, sp⟩ m.length cap ys hy1 hy2 hy4 (by unfold maxLen; omega) hby hbase;refine ⟨v', w6, hrun, ⟨xs ++ ys, by rw [List.length_append]; exact h1, fun i hi' => ?_⟩, h2⟩
   by_cases hlt : i < L.length
   ·obtain ⟨c', hc', hR⟩ := hr i hlt
    refine ⟨c', fun j hj => ?_, by rw [List.getElem_append_left hlt]; exact K.on (fun _ h => h) (keep w6 h2) hR⟩
    have hil : i * K.n + j < xs.length := by
     rw [hrow.1];have : (i + 1) * K.n ≤ L.length * K.n := Nat.mul_le_mul_right _ hlt;rw [Nat.succ_mul] at this; omega
    rw [List.getElem?_append_left hil]; exact hc' j hj
   ·have hi2 : i - L.length < m.length := by rw [List.length_append] at hi'; omega
    obtain ⟨c, hc, hR⟩ := hy3 (i - L.length) hi2;refine ⟨c, fun j hj => ?_, by rw [List.getElem_append_right (by omega)]; exact K.on (fun _ h => h) (keep w6 h2) hR⟩;have hge : L.length * K.n ≤ i * K.n := Nat.mul_le_mul_right _ (by omega);rw [List.getElem?_append_right (by rw [hrow.1]; omega), hrow.1, show i * K.n + j - L.length * K.n = (i - L.length) * K.n + j by rw [Nat.sub_mul]; omega];exact hc j hj
  rcases hsp with rfl | ⟨rfl, rfl⟩
  ·obtain ⟨-, f2, ys, f3, f4, f5, f6⟩ := SlG.flat K.pos hm
   exact main ys f3 (fun j u hu => by rw [add_lit']; exact f4 j u hu) f5 (fun u hu => by
    obtain ⟨i, hi', f, j, hj, rfl, hR⟩ := f6 u hu
    exact K.one hR j hj) f2
  ·exact main [] (by simp) (fun j u hu => by simp at hu) (fun i h => by simp at h) (fun u hu => by cases hu) (Nat.le_refl _)
theorem OwnK.nil {α : Type} {K : Kd α} (S : Nat → Prop) (w : World) (base : Nat) : OwnK K S w base [] (.slice none 0 0) := ⟨[], World.ownsRow_nil _ _ _ _, fun i hi => by simp at hi⟩
theorem OwnK.slgB {α : Type} {K : Kd α} {S S' : Nat → Prop} {w : World} {base : Nat} {l : List α} {v : Value} (h : OwnK K S w base l v) (hSS : ∀ k, S k → S' k) (hS : ∀ k, base ≤ k → k < w.heap.size → S' k) (hby : l.length * K.bytes ≤ 140737488355328) : SlG S' w K.n K.bytes (K.R S' w) l v := by
 obtain ⟨xs, ⟨hlen, hown⟩, hr⟩ := h;rcases hown with ⟨rfl, hn⟩ | ⟨g, cap, cur, rfl, hbg, hh, hnc, hcm, hcs, htk⟩
 ·obtain rfl : l = [] := List.length_eq_zero_iff.1 hn
  exact ⟨none, 0, 0, 0, rfl, Nat.le_refl _, by simp, fun h => by omega, fun h => by simp at h, fun i hi => by simp at hi⟩
 ·have hgl := (Array.getElem?_eq_some_iff.1 hh).1
  refine ⟨_, g, 0, cap, rfl, hnc, hby, fun _ => rfl, fun _ => hS g hbg hgl, fun i hi => ?_⟩;obtain ⟨c, hc, hR⟩ := hr i hi;refine ⟨c, fun j hj => ?_, K.on hSS (fun _ _ => rfl) hR⟩;have h1 := hc j hj;rw [← htk, List.getElem?_take] at h1
  have hlt : i * K.n + j < l.length * K.n := by
   have : (i + 1) * K.n ≤ l.length * K.n := Nat.mul_le_mul_right _ hi;rw [Nat.succ_mul] at this; omega
  rw [if_pos hlt] at h1;rw [show 0 + i * K.n + j = i * K.n + j by omega];exact cell_of_block' hh _ (by rw [← Array.getElem?_toList]; exact h1)
theorem OwnK.slg' {α : Type} {K : Kd α} {S S' : Nat → Prop} {w : World} {base : Nat} {l : List α} {v : Value} (h : OwnK K S w base l v) (hSS : ∀ k, S k → S' k) (hS : ∀ k, base ≤ k → k < w.heap.size → S' k) (hl : l.length ≤ 100000) : SlG S' w K.n K.bytes (K.R S' w) l v := by
 have hby : l.length * K.bytes ≤ 140737488355328 := by
  have := Nat.mul_le_mul hl K.few;omega
 exact OwnK.slgB h hSS hS hby
end Go.Proofs.Ytbkligcfllakeaa
namespace Go.Proofs.Ytbkligcfllakeaa
open Go.RowKit
theorem step_append_by {P : Program} {ops : Array Oper} {o : Oper} {a : Act} {w w' : World} {K : Act → World → Prop} {Q : Exit → Act → World → Prop} {E : Prop} (hgd : o.guard = none) (s x : Operand) (t : TypeId)
  (ho : o.op = .call { callee := .builtin .append, args := #[s, x], argTypes := #[t, t] }) {v xv v' : Value} (hs : a.eval s = v) (hx : a.eval x = xv) (hrun : (Builtin.append_ #[t, t] o.type #[v, xv]).run P w = .ok v' w')
  (h : K (a.put o.dst v') w') : if Region.wanted o (yielded ops a.tmps) = true then Oper.wp P o a w K Q else E := by
 have hw : Region.wanted o (yielded ops a.tmps) = true := by simp [Region.wanted, hgd]
 rw [if_pos hw];unfold Oper.wp execOp;simp only [ho, resolve, invoke, builtin, Sem.run_bind, Sem.run_pure, Result.andThen_ok, List.map_toArray, List.map_cons, List.map_nil, hs, hx, hrun]
 exact h
end Go.Proofs.Ytbkligcfllakeaa
namespace Go.Proofs.Ytbkligcfllakeaa
open Go
section
variable {P : Program} {ops : Array Oper} {Q : Exit → Act → World → Prop} {md : Region.Mode}
end
end Go.Proofs.Ytbkligcfllakeaa
namespace Go.Proofs.Ytbkligcfllakeaa
open Go
section
variable {P : Program} {ops : Array Oper} {Q : Exit → Act → World → Prop} {md : Region.Mode}
end
end Go.Proofs.Ytbkligcfllakeaa
namespace Go.Proofs.Ytbkligcfllakeaa
open Go
section
variable {P : Program} {ops : Array Oper} {Q : Exit → Act → World → Prop}
end
end Go.Proofs.Ytbkligcfllakeaa
namespace Go.Proofs.Ytbkligcfllakeaa
open Go
section
variable {P : Program} {ops : Array Oper} {Q : Exit → Act → World → Prop}
end
end Go.Proofs.Ytbkligcfllakeaa
namespace Go.Proofs.Ytbkligcfllakeaa
open Go.RowKit
def at4v (c0 c1 c2 c3 : Value) : Nat → Value
 | 0 => c0 | 1 => c1 | 2 => c2 | _ => c3
end Go.Proofs.Ytbkligcfllakeaa
namespace Go.Proofs.Ytbkligcfllakeaa
open Go.RowKit
theorem one_row {α : Type} {K : Kd α} {S S1 : Nat → Prop} {w : World} {y : α} {b : Nat} {cs : Array Value} {t : TypeId} {fz : Nat × Nat} {c : Nat → Value} (hb : w.heap[b]? = some (.cells cs t fz)) (hS : S1 b) (hc : ∀ j, j < K.n → cs[j]? = some (c j)) (hR : K.R S w y c) :
  SlG S1 w K.n K.bytes (K.R S w) [y] (.slice (some ⟨b, 0, none⟩) 1 1) := by
 refine ⟨_, b, 0, 1, rfl, Nat.le_refl _, ?_, fun _ => rfl, fun _ => hS, fun i hi => ?_⟩
 ·have := K.few; simp; omega
 ·obtain rfl : i = 0 := by simp at hi; omega
  refine ⟨c, fun j hj => ?_, hR⟩;rw [show 0 + 0 * K.n + j = j by omega];exact cell_of_block' hb _ (hc j hj)
end Go.Proofs.Ytbkligcfllakeaa
namespace Go.Proofs.Ytbkligcfllakeaa
open Go.RowKit
theorem own_manyH {α : Type} {K : Kd α} {S S1 : Nat → Prop} {w : World} {base : Nat} {L m : List α} {lv x : Value} (hown : OwnK K S w base L lv) (hm : SlG S1 w K.n K.bytes (K.R S w) m x) (hS : ∀ k, S k → k < w.heap.size ∧ lv.ownBlock ≠ some k)
  (hbase : base ≤ w.heap.size) (hlen : L.length + m.length ≤ 100000) (ty : TypeId) :
  ∃ (v' : Value) (w6 : World), (Builtin.append_ #[K.ST, K.ST] ty #[lv, x]).run Try.prog w = .ok v' w6 ∧ OwnK K S w6 base (L ++ m) v' ∧ w.grownBy w6 lv.ownBlock ∧ (v'.ownBlock = lv.ownBlock ∨ v'.ownBlock = some w.heap.size) := by
 obtain ⟨i0, z, hi, hz0, hz1, hz2, hz3⟩ := K.info;obtain ⟨xs, hrow, hr⟩ := hown
 have hby : (L.length + m.length) * K.bytes ≤ 140737488355328 := by
  have := Nat.mul_le_mul hlen K.few;omega
 have keep : ∀ w6 : World, w.grownBy w6 lv.ownBlock → ∀ k, S k → w6.heap[k]? = w.heap[k]? := fun w6 hg k hk => hg.block k (hS k hk).1 (fun e => (hS k hk).2 e.symm)
 obtain ⟨a, cap, rfl⟩ := SlG.form hm;rcases a with _ | ⟨b, o, sp⟩
 ·obtain ⟨a', b', o', cap', e, h6, h7, h8, h9, h10⟩ := id hm
  cases e
  have hc0 : cap = 0 := by
   by_cases hc : 0 < cap
   ·have := h8 hc; cases this
   ·omega
  subst hc0;obtain rfl : m = [] := List.length_eq_zero_iff.1 (by omega);have hrun := run_append_owned_none (P := Try.prog) (w := w) base K.ST ty K.T i0 K.n K.und hi lv L.length xs hrow
  exact ⟨lv, w, hrun, ⟨xs, by simpa using hrow, fun i hi' => by
   have hi2 : i < L.length := by simpa using hi'
   obtain ⟨c, hc, hR⟩ := hr i hi2
   exact ⟨c, hc, by simpa using hR⟩⟩, World.grownBy.refl w _, .inl rfl⟩
 ·have hsp : sp = none ∨ m = [] ∧ cap = 0 := by
   obtain ⟨a', b', o', cap', e, h6, h7, h8, h9, h10⟩ := id hm
   cases e
   by_cases hc : 0 < cap
   ·have := h8 hc
    injection this with e; injection e with e1 e2 e3
    exact .inl e3
   ·exact .inr ⟨List.length_eq_zero_iff.1 (by omega), by omega⟩
  have main : ∀ (ys : List Value), ys.length = m.length * K.n → (∀ j u, ys[j]? = some u → w.cell? ((⟨b, o, sp⟩ : Addr).add j) = some u) → (∀ i (h : i < m.length), ∃ f : Nat → Value, (∀ j, j < K.n → ys[i * K.n + j]? = some (f j)) ∧ K.R S w m[i] f) → (∀ u ∈ ys, u.oneCell' = true) → m.length ≤ cap →
    ∃ (v' : Value) (w6 : World), (Builtin.append_ #[K.ST, K.ST] ty #[lv, .slice (some ⟨b, o, sp⟩) m.length cap]).run Try.prog w = .ok v' w6 ∧ OwnK K S w6 base (L ++ m) v' ∧ w.grownBy w6 lv.ownBlock ∧ (v'.ownBlock = lv.ownBlock ∨ v'.ownBlock = some w.heap.size) := by
   intro ys hy1 hy2 hy3 hy4 hcap;obtain ⟨v', w6, hrun, h1, h2, _, h5⟩ := run_append_own_at (P := Try.prog) w base K.ST ty K.T i0 z K.n K.bytes K.und hi hz0 hz1 hz2 hz3 K.pos lv L.length xs hrow ⟨b, o, sp⟩ m.length cap ys hy1 hy2 hy4 (by unfold maxLen; omega) hby hbase;refine ⟨v', w6, hrun, ⟨xs ++ ys, by rw [List.length_append]; exact h1, fun i hi' => ?_⟩, h2, h5⟩
   by_cases hlt : i < L.length
   ·obtain ⟨c', hc', hR⟩ := hr i hlt
    refine ⟨c', fun j hj => ?_, by rw [List.getElem_append_left hlt]; exact K.on (fun _ h => h) (keep w6 h2) hR⟩
    have hil : i * K.n + j < xs.length := by
     rw [hrow.1];have : (i + 1) * K.n ≤ L.length * K.n := Nat.mul_le_mul_right _ hlt;rw [Nat.succ_mul] at this; omega
    rw [List.getElem?_append_left hil]; exact hc' j hj
   ·have hi2 : i - L.length < m.length := by rw [List.length_append] at hi'; omega
    obtain ⟨c, hc, hR⟩ := hy3 (i - L.length) hi2;refine ⟨c, fun j hj => ?_, by rw [List.getElem_append_right (by omega)]; exact K.on (fun _ h => h) (keep w6 h2) hR⟩;have hge : L.length * K.n ≤ i * K.n := Nat.mul_le_mul_right _ (by omega);rw [List.getElem?_append_right (by rw [hrow.1]; omega), hrow.1, show i * K.n + j - L.length * K.n = (i - L.length) * K.n + j by rw [Nat.sub_mul]; omega];exact hc j hj
  rcases hsp with rfl | ⟨rfl, rfl⟩
  ·obtain ⟨-, f2, ys, f3, f4, f5, f6⟩ := SlG.flat K.pos hm
   exact main ys f3 (fun j u hu => by rw [add_lit']; exact f4 j u hu) f5 (fun u hu => by
    obtain ⟨i, hi', f, j, hj, rfl, hR⟩ := f6 u hu
    exact K.one hR j hj) f2
  ·exact main [] (by simp) (fun j u hu => by simp at hu) (fun i h => by simp at h) (fun u hu => by cases hu) (Nat.le_refl _)
end Go.Proofs.Ytbkligcfllakeaa
namespace Go.Proofs.Ytbkligcfllakeaa
open Go.RowKit
def MineS {α : Type} (K : Kd α) (S : Nat → Prop) (w : World) (B : Nat) (l : List α) (v : Value) : Prop := OwnK K (fun b => (S b ∨ B ≤ b) ∧ b < w.heap.size ∧ v.ownBlock ≠ some b) w B l v
section
variable {α : Type} {K : Kd α} {S : Nat → Prop}
theorem MineS.on {w w' : World} {B : Nat} {l : List α} {v : Value} (h : MineS K S w B l v) (hb : Below w.heap.size w w') : MineS K S w' B l v :=
 OwnK.on h (fun _k hk => ⟨hk.1, Nat.lt_of_lt_of_le hk.2.1 hb.size, hk.2.2⟩) (fun k hk => hb.block k hk.2.1) (fun k _ hk _ => hb.block k hk)
theorem MineS.lies {w : World} {B : Nat} {l : List α} {v : Value} (h : MineS K S w B l v) (k : Nat) (hk : v.ownBlock = some k) : B ≤ k ∧ k < w.heap.size := OwnK.lies h k hk
theorem MineS.form {w : World} {B : Nat} {l : List α} {v : Value} (h : MineS K S w B l v) : ∃ a cap, v = .slice a l.length cap := OwnK.form h
end
end Go.Proofs.Ytbkligcfllakeaa
namespace Go.Proofs.Ytbkligcfllakeaa
open Go.RowKit
def blank (n : Nat) : Array Value := madeCells #[.int .i64 0, .int .i64 0, .string ⟨#[]⟩, .slice none 0 0] (n * 4)
theorem blank_size (n : Nat) : (blank n).size = n * 4 := size_madeCells _ _
def CopyAt (l : List V) : Prop := ∀ (B : Nat) (w : World) (a : Value), B ≤ w.heap.size → RepL B w l a →
 Calls Try.prog 129 #[a] w fun e w' => ∃ r, e = .returned r ∧ RepLG (fun b => w.heap.size ≤ b ∧ b < w'.heap.size) w' l r ∧ Below w.heap.size w w'
theorem run_make4 (w : World) (n : Nat) (hn : n * 56 ≤ 140737488355328) :
  (Instr.makeSlice 22 (.int .i64 n) (.int .i64 n)).run Try.prog w = .ok (.slice (some ⟨w.heap.size, 0, none⟩) n n) (w.alloc (.cells (blank n) 27)) := by
 obtain ⟨i0, hi, hz0, hz1, hz2⟩ := info_parts infoValue;have h := Go.run_make (P := Try.prog) w 22 27 i0 _ Try.underlying22 hi hz0 .i64 .i64 n n (by omega) (by omega) (by rw [hz2]; omega) (by omega);rw [h, hz1, Int.toNat_natCast];rfl
def CopyInv (l : List V) (k : Nat) (w wr : World) : Prop :=
 ∃ cur, wr.heap[w.heap.size]? = some (.cells cur 27 (0, 0)) ∧ cur.size = l.length * 4 ∧ RepRow (fun b => w.heap.size < b ∧ b < wr.heap.size) wr (l.take k) cur ∧ Below w.heap.size w wr
theorem CopyInv.start (l : List V) (w : World) : CopyInv l 0 w (w.alloc (.cells (blank l.length) 27)) :=
 ⟨_, alloc_new' _ _, blank_size _, fun i hi => by simp at hi, (Below.refl _ w).alloc (Nat.le_refl _) _⟩
theorem CopyInv.finish {l : List V} {w wr : World} (h : CopyInv l l.length w wr) (hl : l.length * 56 ≤ 140737488355328) :
  RepLG (fun b => w.heap.size ≤ b ∧ b < wr.heap.size) wr l (.slice (some ⟨w.heap.size, 0, none⟩) l.length l.length) ∧ Below w.heap.size w wr := by
 obtain ⟨cur, hb, hs, hr, hbel⟩ := h;rw [List.take_length] at hr;exact ⟨(hr.on (fun k hk => ⟨by omega, hk.2⟩) (fun _ _ => rfl)).slice hb ⟨Nat.le_refl _, (Array.getElem?_eq_some_iff.1 hb).1⟩ (Nat.le_refl _) hl, hbel⟩
theorem CopyInv.step {l : List V} {k : Nat} {w wr w3 : World} (h : CopyInv l k w wr) (hk : k < l.length) {o : Obj} {r : Value} (hb3 : Below (wr.alloc o).heap.size (wr.alloc o) w3)
  {c0 c1 c2 : Value} (hx : RepG (fun b => w.heap.size < b ∧ b < w3.heap.size ∧ b ≠ wr.heap.size) w3 l[k] c0 c1 c2 r) (r' : Value) :
  CopyInv l (k + 1) w ((((((w3.setCell ⟨wr.heap.size, 3, none⟩ r').setCell ⟨w.heap.size, k * 4, none⟩ c0).setCell ⟨w.heap.size, k * 4 + 1, none⟩ c1).setCell ⟨w.heap.size, k * 4 + 2, none⟩ c2).setCell ⟨w.heap.size, k * 4 + 3, none⟩ r)) := by
 obtain ⟨cur, hb, hs, hr, hbel⟩ := h;have hlt : w.heap.size < wr.heap.size := (Array.getElem?_eq_some_iff.1 hb).1;have hs3 := hb3.size;simp only [World.size_alloc] at hs3
 have e3 : w3.heap[w.heap.size]? = some (.cells cur 27 (0, 0)) := by
  rw [hb3.block _ (by simp; omega), Below.heap_alloc _ _ _ hlt]; exact hb
 have e4 : (w3.setCell ⟨wr.heap.size, 3, none⟩ r').heap[w.heap.size]? = some (.cells cur 27 (0, 0)) := by
  rw [Below.heap_setCell _ _ _ _ (by simp; omega)]; exact e3
 have keep : ∀ b, b ≠ w.heap.size → b ≠ wr.heap.size → ((((((w3.setCell ⟨wr.heap.size, 3, none⟩ r').setCell ⟨w.heap.size, k * 4, none⟩ c0).setCell ⟨w.heap.size, k * 4 + 1, none⟩ c1).setCell ⟨w.heap.size, k * 4 + 2, none⟩ c2).setCell ⟨w.heap.size, k * 4 + 3, none⟩ r)).heap[b]? = w3.heap[b]? := by
  intro b h1 h2;rw [Below.heap_setCell _ _ _ _ (by simpa using h1), Below.heap_setCell _ _ _ _ (by simpa using h1), Below.heap_setCell _ _ _ _ (by simpa using h1), Below.heap_setCell _ _ _ _ (by simpa using h1), Below.heap_setCell _ _ _ _ (by simpa using h2)]
 have hsz : ((((((w3.setCell ⟨wr.heap.size, 3, none⟩ r').setCell ⟨w.heap.size, k * 4, none⟩ c0).setCell ⟨w.heap.size, k * 4 + 1, none⟩ c1).setCell ⟨w.heap.size, k * 4 + 2, none⟩ c2).setCell ⟨w.heap.size, k * 4 + 3, none⟩ r)).heap.size = w3.heap.size := by
  simp [World.setCell]
 refine ⟨put4 cur (k * 4) c0 c1 c2 r, ?_, by rw [put4_size]; exact hs, ?_, ?_⟩
 ·exact heap_setCell_same _ _ _ _ _ _ (heap_setCell_same _ _ _ _ _ _ (heap_setCell_same _ _ _ _ _ _ (heap_setCell_same _ _ _ _ _ _ e4)))
 ·rw [List.take_succ_eq_append_getElem hk]
  have hlen : (l.take k).length = k := by simp; omega
  have h1 : RepRow (fun b => w.heap.size < b ∧ b < w3.heap.size ∧ b ≠ wr.heap.size) w3 (l.take k) cur := hr.on (fun b hb => ⟨hb.1, by omega, by omega⟩) (fun b hb => by rw [hb3.block _ (by simp; omega), Below.heap_alloc _ _ _ hb.2]);have h2 := h1.snoc hx (by rw [hlen, hs]; omega);rw [hlen] at h2;exact h2.on (fun b hb => ⟨hb.1, by rw [hsz]; exact hb.2.1⟩) (fun b hb => keep b (by omega) hb.2.2)
 ·have hw3 : Below w.heap.size w w3 := (hbel.alloc (by omega) o).trans (hb3.mono (by simp; omega))
  exact ((((hw3.setCell (by simp; omega) _).setCell (Nat.le_refl _) _).setCell (Nat.le_refl _) _).setCell (Nat.le_refl _) _).setCell (Nat.le_refl _) _
set_option maxRecDepth 100000 in
set_option maxHeartbeats 1000000 in
theorem copied_of (l : List V) (hC : ∀ x, x ∈ l → CopyAt x.list) : CopyAt l := by
 intro B w a hB ha;obtain ⟨aa, ab, ao, ac, rfl, hal, hac, haa, hab, hax⟩ := ha;have HC := Lib.hid hC; clear hC
 have HAX := Lib.hid hax; clear hax
 have HAA := Lib.hid haa; clear haa
 by_cases hz : l.length = 0
 ·have hl0 : l = [] := List.length_eq_zero_iff.1 hz
  subst hl0;go_enter Try.func129, Try.ntmps129
  go_wp2_with fail
  go_ret
  exact ⟨_, rfl, ⟨none, 0, 0, 0, rfl, Nat.le_refl _, by simp, fun h => by omega, fun h => by simp at h, fun i hi => by simp at hi⟩, Below.refl _ _⟩
 have hz' : ((l.length : Int) == 0) = false := beq_eq_false_iff_ne.2 (by omega);have hmk : ∀ w, (Instr.makeSlice 22 (.int .i64 l.length) (.int .i64 l.length)).run Try.prog w = _ := fun w => run_make4 w l.length (by omega)
 go_enter Try.func129, Try.ntmps129
 go_wp2_with fail
 go_loopw [14] (fun i wr => ∃ k : Nat, k ≤ l.length ∧ i = .int .i64 k ∧ CopyInv l k w wr) (fun i _ => l.length - (intOf i).toNat)
 case atStart => exact ⟨0, Nat.zero_le _, rfl, CopyInv.start l w⟩
 case round =>
  obtain ⟨k, hk1, rfl, hinv⟩ := hrel;have hbel : Below w.heap.size w wr := by obtain ⟨_, _, _, _, h⟩ := hinv; exact h
  by_cases hl : k < l.length
  ·obtain ⟨x0, x1, x2, x3, g0, g1, g2, g3, gr⟩ := HAX.out k hl
   have hab' : ab < B := hab (by omega);obtain rfl := HAA.out (by omega);rw [← hbel.cell (by simp; omega)] at g0 g1 g2 g3;have hs := hbel.size;obtain ⟨fa, fc, rfl, rfl, rfl, rfl⟩ := gr.form;have HI := Lib.hid hinv; clear hinv
   have HG := Lib.hid gr; clear gr
   go_wp2_with fail
   have hb2 : Below w.heap.size w (wr.alloc (.cells #[.int .i64 l[k].kind, .int .i64 l[k].num, .string l[k].text, .slice fa l[k].list.length fc] 27)) := hbel.alloc hs _;refine (HC.out l[k] (List.getElem_mem hl) B _ _ (by simp; omega) (RepL.below (fun j hj => hb2.block j (by omega)) HG.out.lst)).mono ?_;rintro e w3 ⟨r, rfl, hrl, hb3⟩;obtain ⟨ra, rb, ro, rc, hr1, -⟩ := id hrl;subst hr1;have hs3 := hb3.size;simp only [World.size_alloc] at hs3
   have hx : RepG (fun b => w.heap.size < b ∧ b < w3.heap.size ∧ b ≠ wr.heap.size) w3 l[k] _ _ _ _ := HG.out.relist (hrl.on (fun b hb => ⟨by have := hb.1; simp at this; omega, hb.2, by have := hb.1; simp at this; omega⟩) (fun _ _ => rfl));have HX := Lib.hid (HI.out.step hl hb3 hx (.slice ra l[k].list.length rc)); clear hx
   have b1 : w3.heap[wr.heap.size]? = _ := (hb3.block wr.heap.size (by simp)).trans (alloc_new' _ _);obtain ⟨cur, m1, m2, -, -⟩ := HI.out;have hltM : w.heap.size < wr.heap.size := (Array.getElem?_eq_some_iff.1 m1).1
   have m3 : w3.heap[w.heap.size]? = some (.cells cur 27 (0, 0)) := by
    rw [hb3.block _ (by simp; omega), Below.heap_alloc _ _ _ hltM]; exact m1
   obtain ⟨u0, q0⟩ := cell_some m3 (i := k * 4) (by omega);obtain ⟨u1, q1⟩ := cell_some m3 (i := k * 4 + 1) (by omega);obtain ⟨u2, q2⟩ := cell_some m3 (i := k * 4 + 2) (by omega);obtain ⟨u3, q3⟩ := cell_some m3 (i := k * 4 + 3) (by omega);have z0 := frozen_of_row w3 _ (k * 4) _ _ m3;have z1 := frozen_of_row w3 _ (k * 4 + 1) _ _ m3;have z2 := frozen_of_row w3 _ (k * 4 + 2) _ _ m3;have z3 := frozen_of_row w3 _ (k * 4 + 3) _ _ m3;have zb := frozen_of_row w3 _ 3 _ _ b1;have d0 := cell_of_block' (i := 0) b1 _ rfl;have d1 := cell_of_block' (i := 1) b1 _ rfl;have d2 := cell_of_block' (i := 2) b1 _ rfl;have d3 := cell_of_block' (i := 3) b1 _ rfl;clear b1 m1 m2 m3 g0 g1 g2 g3 hrl;have hne : w.heap.size ≠ wr.heap.size := by omega
   have hne2 : wr.heap.size ≠ w.heap.size := by omega
   go_wp2_with fail
   go_roundw
   case rel => exact ⟨k + 1, by omega, by go_num, HX.out⟩
   case measure => simp [intOf]; omega
  ·have hke : k = l.length := by omega
   subst hke;have HF := Lib.hid (hinv.finish (by omega));clear hinv;go_wp2_with fail
   go_ret
   exact ⟨_, rfl, HF.out.1, HF.out.2⟩
theorem copied_any (l : List V) : CopyAt l := copied_of l (fun x _hx => copied_any x.list)
 termination_by SizeOf.sizeOf l
 decreasing_by
  have := List.sizeOf_lt_of_mem _hx
  cases x with
  | mk k n s m => simp only [V.mk.sizeOf_spec, V.list] at *; omega
end Go.Proofs.Ytbkligcfllakeaa
