/-
  OwnKit, RowMany, StepBy, Region, RegionG
-/
import Derived.Test.YtjmnnjikmmglpaaKD01
import Derived.Deep.RegionLaw
import Derived.Orders
import Derived.Deep.RegionHeld
import Derived.WalkKit
namespace Go.Proofs.Ytjmnnjikmmglpaa
open Go.RowKit
structure Kd (α : Type) where
 T : TypeId
 ST : TypeId
 n : Nat
 bytes : Nat
 R : (Nat → Prop) → World → α → (Nat → Value) → Prop
 pos : 0 < n
 few : bytes ≤ 1000
 on : ∀ {S S' : Nat → Prop} {w w' : World} {x : α} {c : Nat → Value}, (∀ k, S k → S' k) → (∀ k, S k → w'.heap[k]? = w.heap[k]?) → R S w x c → R S' w' x c
 one : ∀ {S : Nat → Prop} {w : World} {x : α} {c : Nat → Value}, R S w x c → ∀ j, j < n → (c j).oneCell' = true
 und : Try.prog.underlying ST = some (.slice T)
 info : ∃ (i : TypeInfo) (z : Value), Try.prog.info? T = some i ∧ i.zero = some z ∧ i.size = n ∧ i.bytes = bytes ∧ z.cells.size = n
theorem ownsRow_on {w w' : World} {base : Nat} {e : TypeId} {n k : Nat} {v : Value} {xs : List Value} (h : w.ownsRow base e n v k xs) (hw : ∀ g, base ≤ g → g < w.heap.size → v.ownBlock = some g → w'.heap[g]? = w.heap[g]?) : w'.ownsRow base e n v k xs := by
 refine ⟨h.1, ?_⟩;rcases h.2 with hn | ⟨g, cap, cur, hv, hb, hg, rest⟩
 ·exact .inl hn
 ·subst hv
  exact .inr ⟨g, cap, cur, rfl, hb, (hw g hb (Array.getElem?_eq_some_iff.1 hg).1 rfl).trans hg, rest⟩
theorem ownsRow_down {w : World} {base base' : Nat} {e : TypeId} {n k : Nat} {v : Value} {xs : List Value} (h : w.ownsRow base e n v k xs) (hb : base' ≤ base) : w.ownsRow base' e n v k xs := by
 refine ⟨h.1, ?_⟩;rcases h.2 with hn | ⟨g, cap, cur, hv, hg, rest⟩
 ·exact .inl hn
 ·exact .inr ⟨g, cap, cur, hv, Nat.le_trans hb hg, rest⟩
section
variable {α : Type} (K : Kd α)
def OwnK (S : Nat → Prop) (w : World) (base : Nat) (l : List α) (v : Value) : Prop :=
 ∃ xs, w.ownsRow base K.T K.n v l.length xs ∧ ∀ i (h : i < l.length), ∃ c : Nat → Value, (∀ j, j < K.n → xs[i * K.n + j]? = some (c j)) ∧ K.R S w l[i] c
def MineK (w : World) (base : Nat) (l : List α) (v : Value) : Prop := OwnK K (fun b => base ≤ b ∧ b < w.heap.size ∧ v.ownBlock ≠ some b) w base l v
variable {K}
theorem MineK.nil (w : World) (base : Nat) : MineK K w base [] (.slice none 0 0) := ⟨[], World.ownsRow_nil _ _ _ _, fun i hi => by simp at hi⟩
theorem OwnK.form {S : Nat → Prop} {w : World} {base : Nat} {l : List α} {v : Value} (h : OwnK K S w base l v) : ∃ a cap, v = .slice a l.length cap := by
 obtain ⟨xs, ⟨-, ho⟩, -⟩ := h;rcases ho with ⟨rfl, hn⟩ | ⟨g, cap, cur, rfl, -⟩
 ·exact ⟨none, 0, by rw [hn]⟩
 ·exact ⟨_, _, rfl⟩
theorem OwnK.lies {S : Nat → Prop} {w : World} {base : Nat} {l : List α} {v : Value} (h : OwnK K S w base l v) (k : Nat) (hk : v.ownBlock = some k) : base ≤ k ∧ k < w.heap.size := by
 obtain ⟨xs, ⟨_, hown⟩, _⟩ := h;rcases hown with ⟨rfl, hn⟩ | ⟨g, cap, cur, rfl, hbg, hh, _⟩
 ·simp [Value.ownBlock] at hk
 ·simp [Value.ownBlock] at hk
  subst hk;exact ⟨hbg, (Array.getElem?_eq_some_iff.1 hh).1⟩
theorem OwnK.on {S S' : Nat → Prop} {w w' : World} {base : Nat} {l : List α} {v : Value} (h : OwnK K S w base l v) (hS : ∀ k, S k → S' k) (hw : ∀ k, S k → w'.heap[k]? = w.heap[k]?) (ho : ∀ k, base ≤ k → k < w.heap.size → v.ownBlock = some k → w'.heap[k]? = w.heap[k]?) : OwnK K S' w' base l v := by
 obtain ⟨xs, hown, hr⟩ := h;refine ⟨xs, ownsRow_on hown ho, fun i hi => ?_⟩;obtain ⟨c, hc, hR⟩ := hr i hi;exact ⟨c, hc, K.on hS hw hR⟩
theorem MineK.kept {w w' : World} {base : Nat} {l : List α} {v : Value} (h : MineK K w base l v) (hsz : w.heap.size ≤ w'.heap.size) (hw : ∀ k, base ≤ k → k < w.heap.size → w'.heap[k]? = w.heap[k]?) : MineK K w' base l v :=
 OwnK.on h (fun k hk => ⟨hk.1, by omega, hk.2.2⟩) (fun k hk => hw k hk.1 hk.2.1) (fun k h1 h2 _ => hw k h1 h2)
theorem MineK.stands {w w' : World} {base : Nat} {l : List α} {v : Value} (h : MineK K w base l v) (hb : Below w.heap.size w w') : MineK K w' base l v :=
 h.kept hb.size (fun k _ hk => hb.block k hk)
theorem MineK.far {w : World} {base : Nat} {l : List α} {v : Value} (h : MineK K w base l v) {p : Addr} (hp : p.block < base) (c : Value) : MineK K (w.setCell p c) base l v :=
 h.kept (by simp) (fun k hk _ => Below.heap_setCell _ _ _ _ (by omega))
theorem MineK.slg {S' : Nat → Prop} {w : World} {base : Nat} {l : List α} {v : Value} (h : MineK K w base l v) (hS : ∀ k, base ≤ k → k < w.heap.size → S' k) (hl : l.length ≤ 100000) : SlG S' w K.n K.bytes (K.R S' w) l v := by
 obtain ⟨xs, ⟨hlen, hown⟩, hr⟩ := h
 have hby : l.length * K.bytes ≤ 140737488355328 := by
  have := Nat.mul_le_mul hl K.few;omega
 rcases hown with ⟨rfl, hn⟩ | ⟨g, cap, cur, rfl, hbg, hh, hnc, hcm, hcs, htk⟩
 ·obtain rfl : l = [] := List.length_eq_zero_iff.1 hn
  exact ⟨none, 0, 0, 0, rfl, Nat.le_refl _, by simp, fun h => by omega, fun h => by simp at h, fun i hi => by simp at hi⟩
 ·have hgl := (Array.getElem?_eq_some_iff.1 hh).1
  refine ⟨_, g, 0, cap, rfl, hnc, hby, fun _ => rfl, fun _ => hS g hbg hgl, fun i hi => ?_⟩;obtain ⟨c, hc, hR⟩ := hr i hi;refine ⟨c, fun j hj => ?_, K.on (fun k hk => hS k hk.1 hk.2.1) (fun _ _ => rfl) hR⟩;have h1 := hc j hj;rw [← htk, List.getElem?_take] at h1
  have hlt : i * K.n + j < l.length * K.n := by
   have : (i + 1) * K.n ≤ l.length * K.n := Nat.mul_le_mul_right _ hi;rw [Nat.succ_mul] at this; omega
  rw [if_pos hlt] at h1;rw [show 0 + i * K.n + j = i * K.n + j by omega];exact cell_of_block' hh _ (by rw [← Array.getElem?_toList]; exact h1)
theorem own_append {w : World} {base : Nat} {L : List α} {lv : Value} {y : α} {c : Nat → Value} {cs : Array Value} {b : Nat} {t : TypeId} {fz : Nat × Nat} (hown : MineK K w base L lv) (hbase : base ≤ w.heap.size) (hlen : L.length ≤ 1000)
  (hb : w.heap[b]? = some (.cells cs t fz)) (hcs : cs.size = K.n) (hc : ∀ j, j < K.n → cs[j]? = some (c j)) (hrep : K.R (fun b' => base ≤ b' ∧ b' < w.heap.size ∧ lv.ownBlock ≠ some b') w y c) (ty : TypeId) :
  ∃ (a : Option Addr) (cap : Nat) (w6 : World), (Builtin.append_ #[K.ST, K.ST] ty #[lv, .slice (some ⟨b, 0, none⟩) 1 1]).run Try.prog w = .ok (.slice a (L.length + 1) cap) w6 ∧
   MineK K w6 base (L ++ [y]) (.slice a (L.length + 1) cap) ∧ w.grownBy w6 lv.ownBlock := by
 obtain ⟨i0, z, hi, hz0, hz1, hz2, hz3⟩ := K.info;obtain ⟨xs, hrow, hr⟩ := hown
 have hby : (L.length + 1) * K.bytes ≤ 140737488355328 := by
  have := Nat.mul_le_mul (show L.length + 1 ≤ 1001 by omega) K.few;omega
 obtain ⟨v', w6, hrun, h1, h2, _, h5⟩ := run_append_own_at (P := Try.prog) w base K.ST ty K.T i0 z K.n K.bytes K.und hi hz0 hz1 hz2 hz3 K.pos lv L.length xs hrow ⟨b, 0, none⟩ 1 1 cs.toList (by simp [hcs])
  (fun j u hj => by
   have e : ((⟨b, 0, none⟩ : Addr).add j) = ⟨b, 0 + j, none⟩ := add_lit' _ _ _;rw [e, Nat.zero_add]
   exact cell_of_block' hb u (by rw [← Array.getElem?_toList]; exact hj))
  (fun u hu => by
   obtain ⟨j, hj, rfl⟩ := List.getElem_of_mem hu;have hjn : j < K.n := by rw [← hcs]; simpa using hj
   have h1 := hc j hjn;have h2 : cs[j]? = some (cs.toList[j]) := by rw [← Array.getElem?_toList]; exact List.getElem?_eq_getElem hj
   rw [Option.some.inj (h2.symm.trans h1)]
   exact K.one hrep j hjn) (by unfold maxLen; omega) hby hbase
 have hsub : ∀ k, (base ≤ k ∧ k < w.heap.size ∧ lv.ownBlock ≠ some k) → (base ≤ k ∧ k < w6.heap.size ∧ v'.ownBlock ≠ some k) := fun k hk => by
  have := h2.size;refine ⟨hk.1, by omega, fun e => ?_⟩;rcases h5 with h5 | h5
  ·exact hk.2.2 (h5.symm.trans e)
  ·rw [h5] at e; have := Option.some.inj e; omega
 have hsame : ∀ k, (base ≤ k ∧ k < w.heap.size ∧ lv.ownBlock ≠ some k) → w6.heap[k]? = w.heap[k]? := fun k hk => h2.block k hk.2.1 (fun e => hk.2.2 e.symm)
 have hm : MineK K w6 base (L ++ [y]) v' := by
  refine ⟨xs ++ cs.toList, by rw [List.length_append]; exact h1, fun i hi => ?_⟩
  by_cases hlt : i < L.length
  ·obtain ⟨c', hc', hR⟩ := hr i hlt
   refine ⟨c', fun j hj => ?_, by rw [List.getElem_append_left hlt]; exact K.on hsub hsame hR⟩
   have hil : i * K.n + j < xs.length := by
    rw [hrow.1];have : (i + 1) * K.n ≤ L.length * K.n := Nat.mul_le_mul_right _ hlt;rw [Nat.succ_mul] at this; omega
   rw [List.getElem?_append_left hil]; exact hc' j hj
  ·obtain rfl : i = L.length := by simp at hi; omega
   refine ⟨c, fun j hj => ?_, by rw [List.getElem_append_right (Nat.le_refl _)]; simpa using K.on hsub hsame hrep⟩;rw [List.getElem?_append_right (by rw [hrow.1]; omega), hrow.1, show L.length * K.n + j - L.length * K.n = j by omega, Array.getElem?_toList];exact hc j hj
 obtain ⟨a, cap, rfl⟩ := OwnK.form hm;rw [List.length_append] at hrun hm;exact ⟨a, cap, w6, hrun, hm, h2⟩
end
theorem info_of {T : TypeId} {n bytes : Nat} (h : (Try.prog.info? T).map (fun i => (i.zero.map (fun z => z.cells.size), i.size, i.bytes)) = some (some n, n, bytes)) : ∃ (i : TypeInfo) (z : Value), Try.prog.info? T = some i ∧ i.zero = some z ∧ i.size = n ∧ i.bytes = bytes ∧ z.cells.size = n := by
 match hi : Try.prog.info? T, h with
 | some i, h =>
  simp only [Option.map_some, Option.some.injEq, Prod.mk.injEq] at h
  obtain ⟨h1, h2, h3⟩ := h
  match hz : i.zero, h1 with
  | some z, h1 => exact ⟨i, z, rfl, hz, h2, h3, by simpa using h1⟩
def kdTm : Kd Tm where
 T := 30
 ST := 22
 n := 7
 bytes := 104
 R := fun S w x c => RepM S w x (c 0) (c 1) (c 2) (c 3) (c 4) (c 5) (c 6)
 pos := by omega
 few := by omega
 on := fun hS hw h => RepM.on hS hw _ h
 one := fun h j hj => by
  obtain ⟨fa, fc, ga, gc, e0, e1, e2, e3, e4, e5, e6⟩ := h.form
  match j, hj with
  | 0, _ => rw [e0]; rfl
  | 1, _ => rw [e1]; rfl
  | 2, _ => rw [e2]; rfl
  | 3, _ => rw [e3]; rfl
  | 4, _ => rw [e4]; rfl
  | 5, _ => rw [e5]; rfl
  | 6, _ => rw [e6]; rfl
 und := Try.underlying22
 info := info_of (by kernel_rfl)
def kdV : Kd V where
 T := 28
 ST := 23
 n := 4
 bytes := 56
 R := fun S w x c => RepG S w x (c 0) (c 1) (c 2) (c 3)
 pos := by omega
 few := by omega
 on := fun hS hw h => RepG.on hS hw _ h
 one := fun h j hj => by
  obtain ⟨ga, gc, e0, e1, e2, e3⟩ := h.form
  match j, hj with
  | 0, _ => rw [e0]; rfl
  | 1, _ => rw [e1]; rfl
  | 2, _ => rw [e2]; rfl
  | 3, _ => rw [e3]; rfl
 und := Try.underlying23
 info := info_of (by kernel_rfl)
end Go.Proofs.Ytjmnnjikmmglpaa
namespace Go.Proofs.Ytjmnnjikmmglpaa
open Go.RowKit
theorem mod_of' {i j n : Nat} (hj : j < n) : (i * n + j) / n = i ∧ (i * n + j) % n = j := by
 have hn : 0 < n := by omega
 constructor
 ·rw [Nat.mul_comm, Nat.mul_add_div hn, Nat.div_eq_of_lt hj, Nat.add_zero]
 ·rw [Nat.mul_comm, Nat.mul_add_mod, Nat.mod_eq_of_lt hj]
theorem SlG.front {α : Type} {S : Nat → Prop} {w : World} {n bytes : Nat} {R : α → (Nat → Value) → Prop} {l : List α} {a : Option Addr} {c len : Nat} (h : SlG S w n bytes R l (.slice a len c)) {k : Nat} (hk : k ≤ l.length) :
  SlG S w n bytes R (l.take k) (.slice a k c) := by
 obtain ⟨a', b, o, cap, e, h6, h7, h8, h9, h10⟩ := h
 cases e
 have hlen : (l.take k).length = k := by rw [List.length_take]; omega
 refine ⟨a, b, o, c, by rw [hlen], by omega, ?_, h8, fun h0 => h9 (by omega), fun i hi => ?_⟩
 ·rw [hlen]; exact Nat.le_trans (Nat.mul_le_mul_right _ hk) h7
 ·obtain ⟨f, hf, hr⟩ := h10 i (by omega)
  exact ⟨f, hf, by rw [List.getElem_take]; exact hr⟩
theorem SlG.flat {α : Type} {S : Nat → Prop} {w : World} {n bytes : Nat} {R : α → (Nat → Value) → Prop} {l : List α} {b o c len : Nat} (hn : 0 < n) (h : SlG S w n bytes R l (.slice (some ⟨b, o, none⟩) len c)) :
  len = l.length ∧ len ≤ c ∧ ∃ ys : List Value, ys.length = l.length * n ∧ (∀ m u, ys[m]? = some u → w.cell? ⟨b, o + m, none⟩ = some u) ∧ (∀ i (h : i < l.length), ∃ f : Nat → Value, (∀ j, j < n → ys[i * n + j]? = some (f j)) ∧ R l[i] f) ∧ (∀ u ∈ ys, ∃ i, ∃ (h : i < l.length) (f : Nat → Value) (j : Nat), j < n ∧ u = f j ∧ R l[i] f) := by
 obtain ⟨a', b', o', cap, e, h6, h7, h8, h9, h10⟩ := h
 cases e
 refine ⟨rfl, h6, ?_⟩;have hob : 0 < l.length → b = b' ∧ o = o' := fun h0 => by have := h8 (by omega); injection this with e; injection e with e1 e2; exact ⟨e1, e2⟩
 have hch : ∃ C : Nat → Nat → Value, ∀ i (h : i < l.length), (∀ j, j < n → w.cell? ⟨b', o' + i * n + j, none⟩ = some (C i j)) ∧ R l[i] (C i) := by
  refine ⟨fun i => if h : i < l.length then (h10 i h).choose else fun _ => .int .i64 0, fun i h => ?_⟩;simp only [dif_pos h]
  exact (h10 i h).choose_spec
 obtain ⟨C, hC⟩ := hch
 have hgm : ∀ (m : Nat) (u : Value), ((List.range (l.length * n)).map (fun m => C (m / n) (m % n)))[m]? = some u → ∃ i j, i < l.length ∧ j < n ∧ m = i * n + j ∧ u = C i j := fun m u hu => by
  have hm : m < l.length * n := by
   by_cases hm : m < l.length * n
   ·exact hm
   ·rw [List.getElem?_eq_none (by simp; omega)] at hu
    cases hu
  rw [List.getElem?_map, List.getElem?_range hm] at hu;refine ⟨m / n, m % n, Nat.div_lt_of_lt_mul (by rw [Nat.mul_comm]; exact hm), Nat.mod_lt _ hn, ?_, (Option.some.inj hu).symm⟩;rw [Nat.mul_comm]; exact (Nat.div_add_mod m n).symm
 refine ⟨(List.range (l.length * n)).map (fun m => C (m / n) (m % n)), by simp, fun m u hu => ?_, fun i hi => ⟨C i, fun j hj => ?_, (hC i hi).2⟩, fun u hu => ?_⟩
 ·obtain ⟨i, j, hi, hj, rfl, rfl⟩ := hgm m u hu
  obtain ⟨rfl, rfl⟩ := hob (by omega);rw [← Nat.add_assoc];exact (hC i hi).1 j hj
 ·obtain ⟨m1, m2⟩ := mod_of' (i := i) hj
  have hlt : i * n + j < l.length * n := by
   have : (i + 1) * n ≤ l.length * n := Nat.mul_le_mul_right _ hi;rw [Nat.succ_mul] at this; omega
  rw [List.getElem?_map, List.getElem?_range hlt, Option.map_some, m1, m2]
 ·obtain ⟨m, hm, rfl⟩ := List.getElem_of_mem hu
  obtain ⟨i, j, hi, hj, -, e⟩ := hgm m _ (List.getElem?_eq_getElem hm);exact ⟨i, hi, C i, j, hj, e, (hC i hi).2⟩
theorem own_manyB {α : Type} {K : Kd α} {S : Nat → Prop} {w : World} {base : Nat} {L m : List α} {lv x : Value} (hown : OwnK K S w base L lv) (hm : SlG S w K.n K.bytes (K.R S w) m x) (hS : ∀ k, S k → k < w.heap.size ∧ lv.ownBlock ≠ some k)
  (hbase : base ≤ w.heap.size) (hby : (L.length + m.length) * K.bytes ≤ 140737488355328) (h63 : L.length + m.length ≤ 140737488355328) (ty : TypeId) :
  ∃ (v' : Value) (w6 : World), (Builtin.append_ #[K.ST, K.ST] ty #[lv, x]).run Try.prog w = .ok v' w6 ∧ OwnK K S w6 base (L ++ m) v' ∧ w.grownBy w6 lv.ownBlock := by
 obtain ⟨i0, z, hi, hz0, hz1, hz2, hz3⟩ := K.info;obtain ⟨xs, hrow, hr⟩ := hown;have keep : ∀ w6 : World, w.grownBy w6 lv.ownBlock → ∀ k, S k → w6.heap[k]? = w.heap[k]? := fun w6 hg k hk => hg.block k (hS k hk).1 (fun e => (hS k hk).2 e.symm)
 obtain ⟨a, cap, rfl⟩ := SlG.form hm;rcases a with _ | ⟨b, o, sp⟩
 ·obtain ⟨a', b', o', cap', e, h6, h7, h8, h9, h10⟩ := id hm
  cases e
  have hc0 : cap = 0 := by
   by_cases hc : 0 < cap
   ·have := h8 hc; cases this
   ·omega
  subst hc0;obtain rfl : m = [] := List.length_eq_zero_iff.1 (by omega);have hrun := run_append_owned_none (P := Try.prog) (w := w) base K.ST ty K.T i0 K.n K.und hi lv L.length xs hrow
  exact ⟨lv, w, hrun, ⟨xs, by simpa using hrow, fun i hi' => by
   have hi2 : i < L.length := by simpa using hi'
   obtain ⟨c, hc, hR⟩ := hr i hi2
   exact ⟨c, hc, by simpa using hR⟩⟩, World.grownBy.refl w _⟩
 ·have hsp : sp = none ∨ m = [] ∧ cap = 0 := by
   obtain ⟨a', b', o', cap', e, h6, h7, h8, h9, h10⟩ := id hm
   cases e
   by_cases hc : 0 < cap
   ·have := h8 hc
    injection this with e; injection e with e1 e2 e3
    exact .inl e3
   ·exact .inr ⟨List.length_eq_zero_iff.1 (by omega), by omega⟩
  have main : ∀ (ys : List Value), ys.length = m.length * K.n → (∀ j u, ys[j]? = some u → w.cell? ((⟨b, o, sp⟩ : Addr).add j) = some u) → (∀ i (h : i < m.length), ∃ f : Nat → Value, (∀ j, j < K.n → ys[i * K.n + j]? = some (f j)) ∧ K.R S w m[i] f) → (∀ u ∈ ys, u.oneCell' = true) → m.length ≤ cap →
    ∃ (v' : Value) (w6 : World), (Builtin.append_ #[K.ST, K.ST] ty #[lv, .slice (some ⟨b, o, sp⟩) m.length cap]).run Try.prog w = .ok v' w6 ∧ OwnK K S w6 base (L ++ m) v' ∧ w.grownBy w6 lv.ownBlock := by
   intro ys hy1 hy2 hy3 hy4 hcap;obtain ⟨v', w6, hrun, h1, h2, _, h5⟩ := run_append_own_at (P := Try.prog) w base K.ST ty K.T i0 z K.n K.bytes K.und hi hz0 hz1 hz2 hz3 K.pos lv L.length xs hrow ⟨b, o, sp⟩ m.length cap ys hy1 hy2 hy4 (by unfold maxLen; omega) hby hbase;refine ⟨v', w6, hrun, ⟨xs ++ ys, by rw [List.length_append]; exact h1, fun i hi' => ?_⟩, h2⟩
   by_cases hlt : i < L.length
   ·obtain ⟨c', hc', hR⟩ := hr i hlt
    refine ⟨c', fun j hj => ?_, by rw [List.getElem_append_left hlt]; exact K.on (fun _ h => h) (keep w6 h2) hR⟩
    have hil : i * K.n + j < xs.length := by
     rw [hrow.1];have : (i + 1) * K.n ≤ L.length * K.n := Nat.mul_le_mul_right _ hlt;rw [Nat.succ_mul] at this; omega
    rw [List.getElem?_append_left hil]; exact hc' j hj
   ·have hi2 : i - L.length < m.length := by rw [List.length_append] at hi'; omega
    obtain ⟨c, hc, hR⟩ := hy3 (i - L.length) hi2;refine ⟨c, fun j hj => ?_, by rw [List.getElem_append_right (by omega)]; exact K.on (fun _ h => h) (keep w6 h2) hR⟩;have hge : L.length * K.n ≤ i * K.n := Nat.mul_le_mul_right _ (by omega);rw [List.getElem?_append_right (by rw [hrow.1]; omega), hrow.1, show i * K.n + j - L.length * K.n = (i - L.length) * K.n + j by rw [Nat.sub_mul]; omega];exact hc j hj
  rcases hsp with rfl | ⟨rfl, rfl⟩
  ·obtain ⟨-, f2, ys, f3, f4, f5, f6⟩ := SlG.flat K.pos hm
   exact main ys f3 (fun j u hu => by rw [add_lit']; exact f4 j u hu) f5 (fun u hu => by
    obtain ⟨i, hi', f, j, hj, rfl, hR⟩ := f6 u hu
    exact K.one hR j hj) f2
  ·exact main [] (by simp) (fun j u hu => by simp at hu) (fun i h => by simp at h) (fun u hu => by cases hu) (Nat.le_refl _)
theorem OwnK.nil {α : Type} {K : Kd α} (S : Nat → Prop) (w : World) (base : Nat) : OwnK K S w base [] (.slice none 0 0) := ⟨[], World.ownsRow_nil _ _ _ _, fun i hi => by simp at hi⟩
theorem OwnK.slgB {α : Type} {K : Kd α} {S S' : Nat → Prop} {w : World} {base : Nat} {l : List α} {v : Value} (h : OwnK K S w base l v) (hSS : ∀ k, S k → S' k) (hS : ∀ k, base ≤ k → k < w.heap.size → S' k) (hby : l.length * K.bytes ≤ 140737488355328) : SlG S' w K.n K.bytes (K.R S' w) l v := by
 obtain ⟨xs, ⟨hlen, hown⟩, hr⟩ := h;rcases hown with ⟨rfl, hn⟩ | ⟨g, cap, cur, rfl, hbg, hh, hnc, hcm, hcs, htk⟩
 ·obtain rfl : l = [] := List.length_eq_zero_iff.1 hn
  exact ⟨none, 0, 0, 0, rfl, Nat.le_refl _, by simp, fun h => by omega, fun h => by simp at h, fun i hi => by simp at hi⟩
 ·have hgl := (Array.getElem?_eq_some_iff.1 hh).1
  refine ⟨_, g, 0, cap, rfl, hnc, hby, fun _ => rfl, fun _ => hS g hbg hgl, fun i hi => ?_⟩;obtain ⟨c, hc, hR⟩ := hr i hi;refine ⟨c, fun j hj => ?_, K.on hSS (fun _ _ => rfl) hR⟩;have h1 := hc j hj;rw [← htk, List.getElem?_take] at h1
  have hlt : i * K.n + j < l.length * K.n := by
   have : (i + 1) * K.n ≤ l.length * K.n := Nat.mul_le_mul_right _ hi;rw [Nat.succ_mul] at this; omega
  rw [if_pos hlt] at h1;rw [show 0 + i * K.n + j = i * K.n + j by omega];exact cell_of_block' hh _ (by rw [← Array.getElem?_toList]; exact h1)
theorem OwnK.slg' {α : Type} {K : Kd α} {S S' : Nat → Prop} {w : World} {base : Nat} {l : List α} {v : Value} (h : OwnK K S w base l v) (hSS : ∀ k, S k → S' k) (hS : ∀ k, base ≤ k → k < w.heap.size → S' k) (hl : l.length ≤ 100000) : SlG S' w K.n K.bytes (K.R S' w) l v := by
 have hby : l.length * K.bytes ≤ 140737488355328 := by
  have := Nat.mul_le_mul hl K.few;omega
 exact OwnK.slgB h hSS hS hby
end Go.Proofs.Ytjmnnjikmmglpaa
namespace Go.Proofs.Ytjmnnjikmmglpaa
open Go.RowKit
theorem step_append_by {P : Program} {ops : Array Oper} {o : Oper} {a : Act} {w w' : World} {K : Act → World → Prop} {Q : Exit → Act → World → Prop} {E : Prop} (hgd : o.guard = none) (s x : Operand) (t : TypeId)
  (ho : o.op = .call { callee := .builtin .append, args := #[s, x], argTypes := #[t, t] }) {v xv v' : Value} (hs : a.eval s = v) (hx : a.eval x = xv) (hrun : (Builtin.append_ #[t, t] o.type #[v, xv]).run P w = .ok v' w')
  (h : K (a.put o.dst v') w') : if Region.wanted o (yielded ops a.tmps) = true then Oper.wp P o a w K Q else E := by
 have hw : Region.wanted o (yielded ops a.tmps) = true := by simp [Region.wanted, hgd]
 rw [if_pos hw];unfold Oper.wp execOp;simp only [ho, resolve, invoke, builtin, Sem.run_bind, Sem.run_pure, Result.andThen_ok, List.map_toArray, List.map_cons, List.map_nil, hs, hx, hrun]
 exact h
end Go.Proofs.Ytjmnnjikmmglpaa
namespace Go.Proofs.Ytjmnnjikmmglpaa
open Go
theorem countP_lt {p q : Nat → Bool} {i : Nat} (hpq : ∀ j, q j = true → p j = true) (hp : p i = true) (hq : q i = false) : ∀ l : List Nat, i ∈ l → l.countP q < l.countP p
 | [], hi => by cases hi
 | x :: l, hi => by
  rw [List.countP_cons, List.countP_cons];have hle : l.countP q ≤ l.countP p := List.countP_mono_left (fun j _ => hpq j)
  by_cases e : x = i
  ·subst e; rw [hp, hq]; simp; omega
  ·have hm : i ∈ l := by
    rcases List.mem_cons.1 hi with h | h
    ·exact absurd h.symm e
    ·exact h
   have := countP_lt hpq hp hq l hm
   have h2 : (if q x = true then 1 else 0) ≤ (if p x = true then 1 else 0) := by
    by_cases h : q x = true
    ·rw [if_pos h, if_pos (hpq x h)]; exact Nat.le_refl _
    ·rw [if_neg h]; omega
   omega
section
variable {P : Program} {ops : Array Oper} {Q : Exit → Act → World → Prop} {md : Region.Mode}
theorem getD_lt {listed : Array Bool} {i : Nat} (h : listed.getD i true = false) : i < listed.size := by
 rcases Nat.lt_or_ge i listed.size with h' | h'
 ·exact h'
 ·simp [Array.getElem?_eq_none h'] at h
theorem wpAny_inv (J : Array Bool → Act → World → Prop)
  (hstep : ∀ listed a w i, J listed a w → i ∈ Region.ready md ops listed → wpOp P ops Q i (fun a' w' => J (listed.setIfInBounds i true) a' w') a w)
  (hend : ∀ listed a w, J listed a w → Region.ready md ops listed = [] → Q .normal a w) :
  ∀ (fuel : Nat) (listed : Array Bool) (a : Act) (w : World), (List.range ops.size).countP (fun j => !listed.getD j true) ≤ fuel → J listed a w → wpAny P md ops Q fuel listed a w
 | 0, listed, a, w, hc, hJ => by
  have hr : Region.ready md ops listed = [] := by
   apply List.eq_nil_iff_forall_not_mem.2
   intro i hi;obtain ⟨h1, o, ho, -⟩ := mem_ready.1 hi;have : 0 < (List.range ops.size).countP (fun j => !listed.getD j true) := List.countP_pos_iff.2 ⟨i, List.mem_range.2 (Array.getElem?_eq_some_iff.1 ho).1, by rw [h1]; rfl⟩;omega
  exact ⟨hr, hend _ _ _ hJ hr⟩
 | fuel + 1, listed, a, w, hc, hJ => by
  refine ⟨hend _ _ _ hJ, fun i hi => wpOp_mono (fun a' w' h => wpAny_inv J hstep hend fuel _ a' w' ?_ h) (hstep _ _ _ _ hJ hi)⟩;obtain ⟨h1, o, ho, -⟩ := mem_ready.1 hi;have hin := getD_lt h1
  have := countP_lt (p := fun j => !listed.getD j true) (q := fun j => !(listed.setIfInBounds i true).getD j true) (i := i) (fun j hj => by
    by_cases e : i = j
    ·subst e; simp [h1]
    ·rw [getD_set_ne true e] at hj; exact hj) (by simp [h1]) (by simp [hin]) _ (List.mem_range.2 (Array.getElem?_eq_some_iff.1 ho).1)
  omega
theorem none_listed (m j : Nat) : (Array.replicate m false).getD j false = false := by
 rcases Nat.lt_or_ge j m with h | h
 ·simp [h]
 ·simp [h]
structure Off (ops : Array Oper) (b a : Act) : Prop where
 same : a.defers = b.defers
 size : a.tmps.size = b.tmps.size
 off : ∀ k, (∀ (i : Nat) (o : Oper), ops[i]? = some o → o.dst ≠ some k) → a.tmps[k]? = b.tmps[k]?
theorem Off.refl (ops : Array Oper) (a : Act) : Off ops a a := ⟨rfl, rfl, fun _ _ => rfl⟩
theorem Off.put {b a : Act} (h : Off ops b a) {i : Nat} {o : Oper} {d : Tmp} (ho : ops[i]? = some o) (hd : o.dst = some d) (v : Value) : Off ops b (a.put (some d) v) :=
 ⟨h.same, by show (a.tmps.setIfInBounds d v).size = _; rw [Array.size_setIfInBounds]; exact h.size, fun k hk => by
  have hne : d ≠ k := fun e => hk i o ho (by rw [hd, e])
  show (a.tmps.setIfInBounds d v)[k]? = _
  rw [Array.getElem?_setIfInBounds, if_neg hne]
  exact h.off k hk⟩
theorem sets_eq : ∀ (dvs : List (Nat × Value)) (x b : Array Value), x.size = b.size → (∀ k, k ∉ dvs.map (·.1) → x[k]? = b[k]?) → (∀ p ∈ dvs, x[p.1]? = some p.2) → x = dvs.foldl (fun y p => y.setIfInBounds p.1 p.2) b
 | [], x, b, _, h, _ => by
  apply Array.ext_getElem?
  intro k; exact h k (by simp)
 | p :: dvs, x, b, hs, h, hv => by
  rw [List.foldl_cons];refine sets_eq dvs x _ (by rw [Array.size_setIfInBounds]; exact hs) (fun k hk => ?_) (fun q hq => hv q (List.mem_cons_of_mem _ hq));rw [Array.getElem?_setIfInBounds]
  by_cases e : p.1 = k
  ·subst e
   have h1 := hv p (by simp);rw [if_pos rfl, if_pos (by rw [← hs]; exact (Array.getElem?_eq_some_iff.1 h1).1)];exact h1
  ·rw [if_neg e]
   exact h k (by simp only [List.map_cons, List.mem_cons, not_or]; exact ⟨fun h => e h.symm, hk⟩)
theorem Off.sets {b a : Act} (h : Off ops b a) (dvs : List (Nat × Value)) (hd : (ops.toList.all fun o => match o.dst with | some d => (dvs.map (·.1)).contains d | none => true) = true) (hv : ∀ p ∈ dvs, a.tmps[p.1]? = some p.2) :
  a = { b with tmps := dvs.foldl (fun y p => y.setIfInBounds p.1 p.2) b.tmps } := by
 cases a with
 | mk t ds =>
  have e1 : ds = b.defers := h.same;subst e1
  congr 1
  refine sets_eq dvs t b.tmps h.size (fun k hk => h.off k fun i o ho hdk => hk ?_) hv;rw [List.all_eq_true] at hd;have := hd o (by rw [Array.mem_toList_iff]; exact Array.mem_of_getElem? ho);rw [hdk] at this
  simpa using this
end
end Go.Proofs.Ytjmnnjikmmglpaa
namespace Go.Proofs.Ytjmnnjikmmglpaa
open Go
section
variable {P : Program} {ops : Array Oper} {Q : Exit → Act → World → Prop} {md : Region.Mode}
theorem off_at {b a : Act} (h : Off ops b a) (k : Nat) {v : Value} (hd : (ops.toList.all fun o => o.dst != some k) = true) (hv : b.tmps[k]? = some v) : a.tmps[k]? = some v :=
 (h.off k fun i o ho he => by
  rw [List.all_eq_true] at hd;have := hd o (by rw [Array.mem_toList_iff]; exact Array.mem_of_getElem? ho)
  rw [he] at this; simp at this).trans hv
end
end Go.Proofs.Ytjmnnjikmmglpaa
