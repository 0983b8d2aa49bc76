/-
  RowMany, RowManyS, RowTwo, StrKit
-/
import Derived.Test.YtjmnnjikmmglpaaGreatKF04
import Derived.Test.YtjmnnjikmmglpaaGreatKF06
import Derived.Test.YtjmnnjikmmglpaaGreatKF21
import Derived.Test.YtjmnnjikmmglpaaGreatKF05
namespace Go.Proofs.YtjmnnjikmmglpaaGreat
open Go.RowKit
theorem mod_of' {i j n : Nat} (hj : j < n) : (i * n + j) / n = i ∧ (i * n + j) % n = j := by
 have hn : 0 < n := by omega
 constructor
 ·rw [Nat.mul_comm, Nat.mul_add_div hn, Nat.div_eq_of_lt hj, Nat.add_zero]
 ·rw [Nat.mul_comm, Nat.mul_add_mod, Nat.mod_eq_of_lt hj]
theorem SlG.flat {α : Type} {S : Nat → Prop} {w : World} {n bytes : Nat} {R : α → (Nat → Value) → Prop} {l : List α} {b o c len : Nat} (hn : 0 < n) (h : SlG S w n bytes R l (.slice (some ⟨b, o, none⟩) len c)) :
  len = l.length ∧ len ≤ c ∧ ∃ ys : List Value, ys.length = l.length * n ∧ (∀ m u, ys[m]? = some u → w.cell? ⟨b, o + m, none⟩ = some u) ∧ (∀ i (h : i < l.length), ∃ f : Nat → Value, (∀ j, j < n → ys[i * n + j]? = some (f j)) ∧ R l[i] f) ∧ (∀ u ∈ ys, ∃ i, ∃ (h : i < l.length) (f : Nat → Value) (j : Nat), j < n ∧ u = f j ∧ R l[i] f) := by
 obtain ⟨a', b', o', cap, e, h6, h7, h8, h9, h10⟩ := h
 cases e
 refine ⟨rfl, h6, ?_⟩;have hob : 0 < l.length → b = b' ∧ o = o' := fun h0 => by have := h8 (by omega); injection this with e; injection e with e1 e2; exact ⟨e1, e2⟩
 have hch : ∃ C : Nat → Nat → Value, ∀ i (h : i < l.length), (∀ j, j < n → w.cell? ⟨b', o' + i * n + j, none⟩ = some (C i j)) ∧ R l[i] (C i) := by
  refine ⟨fun i => if h : i < l.length then (h10 i h).choose else fun _ => .int .i64 0, fun i h => ?_⟩;simp only [dif_pos h]
  exact (h10 i h).choose_spec
 obtain ⟨C, hC⟩ := hch
 have hgm : ∀ (m : Nat) (u : Value), ((List.range (l.length * n)).map (fun m => C (m / n) (m % n)))[m]? = some u → ∃ i j, i < l.length ∧ j < n ∧ m = i * n + j ∧ u = C i j := fun m u hu => by
  have hm : m < l.length * n := by
   by_cases hm : m < l.length * n
   ·exact hm
   ·rw [List.getElem?_eq_none (by simp; omega)] at hu
    cases hu
  rw [List.getElem?_map, List.getElem?_range hm] at hu;refine ⟨m / n, m % n, Nat.div_lt_of_lt_mul (by rw [Nat.mul_comm]; exact hm), Nat.mod_lt _ hn, ?_, (Option.some.inj hu).symm⟩;rw [Nat.mul_comm]; exact (Nat.div_add_mod m n).symm
 refine ⟨(List.range (l.length * n)).map (fun m => C (m / n) (m % n)), by simp, fun m u hu => ?_, fun i hi => ⟨C i, fun j hj => ?_, (hC i hi).2⟩, fun u hu => ?_⟩
 ·obtain ⟨i, j, hi, hj, rfl, rfl⟩ := hgm m u hu
  obtain ⟨rfl, rfl⟩ := hob (by omega);rw [← Nat.add_assoc];exact (hC i hi).1 j hj
 ·obtain ⟨m1, m2⟩ := mod_of' (i := i) hj
  have hlt : i * n + j < l.length * n := by
   have : (i + 1) * n ≤ l.length * n := Nat.mul_le_mul_right _ hi;rw [Nat.succ_mul] at this; omega
  rw [List.getElem?_map, List.getElem?_range hlt, Option.map_some, m1, m2]
 ·obtain ⟨m, hm, rfl⟩ := List.getElem_of_mem hu
  obtain ⟨i, j, hi, hj, -, e⟩ := hgm m _ (List.getElem?_eq_getElem hm);exact ⟨i, hi, C i, j, hj, e, (hC i hi).2⟩
theorem own_manyB {α : Type} {K : Kd α} {S : Nat → Prop} {w : World} {base : Nat} {L m : List α} {lv x : Value} (hown : OwnK K S w base L lv) (hm : SlG S w K.n K.bytes (K.R S w) m x) (hS : ∀ k, S k → k < w.heap.size ∧ lv.ownBlock ≠ some k)
  (hbase : base ≤ w.heap.size) (hby : (L.length + m.length) * K.bytes ≤ 140737488355328) (h63 : L.length + m.length ≤ 140737488355328) (ty : TypeId) :
  ∃ (v' : Value) (w6 : World), (Builtin.append_ #[K.ST, K.ST] ty #[lv, x]).run Tryz.prog w = .ok v' w6 ∧ OwnK K S w6 base (L ++ m) v' ∧ w.grownBy w6 lv.ownBlock := by
 obtain ⟨i0, z, hi, hz0, hz1, hz2, hz3⟩ := K.info;obtain ⟨xs, hrow, hr⟩ := hown;have keep : ∀ w6 : World, w.grownBy w6 lv.ownBlock → ∀ k, S k → w6.heap[k]? = w.heap[k]? := fun w6 hg k hk => hg.block k (hS k hk).1 (fun e => (hS k hk).2 e.symm)
 obtain ⟨a, cap, rfl⟩ := SlG.form hm;rcases a with _ | ⟨b, o, sp⟩
 ·obtain ⟨a', b', o', cap', e, h6, h7, h8, h9, h10⟩ := id hm
  cases e
  have hc0 : cap = 0 := by
   by_cases hc : 0 < cap
   ·have := h8 hc; cases this
   ·omega
  subst hc0;obtain rfl : m = [] := List.length_eq_zero_iff.1 (by omega);have hrun := run_append_owned_none (P := Tryz.prog) (w := w) base K.ST ty K.T i0 K.n K.und hi lv L.length xs hrow
  exact ⟨lv, w, hrun, ⟨xs, by simpa using hrow, fun i hi' => by
   have hi2 : i < L.length := by simpa using hi'
   obtain ⟨c, hc, hR⟩ := hr i hi2
   exact ⟨c, hc, by simpa using hR⟩⟩, World.grownBy.refl w _⟩
 ·have hsp : sp = none ∨ m = [] ∧ cap = 0 := by
   obtain ⟨a', b', o', cap', e, h6, h7, h8, h9, h10⟩ := id hm
   cases e
   by_cases hc : 0 < cap
   ·have := h8 hc
    injection this with e; injection e with e1 e2 e3
    exact .inl e3
   ·exact .inr ⟨List.length_eq_zero_iff.1 (by omega), by omega⟩
  have main : ∀ (ys : List Value), ys.length = m.length * K.n → (∀ j u, ys[j]? = some u → w.cell? ((⟨b, o, sp⟩ : Addr).add j) = some u) → (∀ i (h : i < m.length), ∃ f : Nat → Value, (∀ j, j < K.n → ys[i * K.n + j]? = some (f j)) ∧ K.R S w m[i] f) → (∀ u ∈ ys, u.oneCell' = true) → m.length ≤ cap →
    ∃ (v' : Value) (w6 : World), (Builtin.append_ #[K.ST, K.ST] ty #[lv, .slice (some ⟨b, o, sp⟩) m.length cap]).run Tryz.prog w = .ok v' w6 ∧ OwnK K S w6 base (L ++ m) v' ∧ w.grownBy w6 lv.ownBlock := by
   intro ys hy1 hy2 hy3 hy4 hcap;obtain ⟨v', w6, hrun, h1, h2, _, h5⟩ := run_append_own_at (P := Tryz.prog) w base K.ST ty K.T i0 z K.n K.bytes K.und hi hz0 hz1 hz2 hz3 K.pos lv L.length xs hrow ⟨b, o, sp⟩ m.length cap ys hy1 hy2 hy4 (by unfold maxLen; omega) hby hbase;refine ⟨v', w6, hrun, ⟨xs ++ ys, by rw [List.length_append]; exact h1, fun i hi' => ?_⟩, h2⟩
   by_cases hlt : i < L.length
   ·obtain ⟨c', hc', hR⟩ := hr i hlt
    refine ⟨c', fun j hj => ?_, by rw [List.getElem_append_left hlt]; exact K.on (fun _ h => h) (keep w6 h2) hR⟩
    have hil : i * K.n + j < xs.length := by
     rw [hrow.1];have : (i + 1) * K.n ≤ L.length * K.n := Nat.mul_le_mul_right _ hlt;rw [Nat.succ_mul] at this; omega
    rw [List.getElem?_append_left hil]; exact hc' j hj
   ·have hi2 : i - L.length < m.length := by rw [List.length_append] at hi'; omega
    obtain ⟨c, hc, hR⟩ := hy3 (i - L.length) hi2;refine ⟨c, fun j hj => ?_, by rw [List.getElem_append_right (by omega)]; exact K.on (fun _ h => h) (keep w6 h2) hR⟩;have hge : L.length * K.n ≤ i * K.n := Nat.mul_le_mul_right _ (by omega);rw [List.getElem?_append_right (by rw [hrow.1]; omega), hrow.1, show i * K.n + j - L.length * K.n = (i - L.length) * K.n + j by rw [Nat.sub_mul]; omega];exact hc j hj
  rcases hsp with rfl | ⟨rfl, rfl⟩
  ·obtain ⟨-, f2, ys, f3, f4, f5, f6⟩ := SlG.flat K.pos hm
   exact main ys f3 (fun j u hu => by rw [add_lit']; exact f4 j u hu) f5 (fun u hu => by
    obtain ⟨i, hi', f, j, hj, rfl, hR⟩ := f6 u hu
    exact K.one hR j hj) f2
  ·exact main [] (by simp) (fun j u hu => by simp at hu) (fun i h => by simp at h) (fun u hu => by cases hu) (Nat.le_refl _)
theorem own_many {α : Type} {K : Kd α} {S : Nat → Prop} {w : World} {base : Nat} {L m : List α} {lv x : Value} (hown : OwnK K S w base L lv) (hm : SlG S w K.n K.bytes (K.R S w) m x) (hS : ∀ k, S k → k < w.heap.size ∧ lv.ownBlock ≠ some k)
  (hbase : base ≤ w.heap.size) (hlen : L.length + m.length ≤ 100000) (ty : TypeId) :
  ∃ (v' : Value) (w6 : World), (Builtin.append_ #[K.ST, K.ST] ty #[lv, x]).run Tryz.prog w = .ok v' w6 ∧ OwnK K S w6 base (L ++ m) v' ∧ w.grownBy w6 lv.ownBlock := by
 have hby : (L.length + m.length) * K.bytes ≤ 140737488355328 := by
  have := Nat.mul_le_mul hlen K.few;omega
 exact own_manyB hown hm hS hbase hby (by omega) ty
theorem OwnK.nil {α : Type} {K : Kd α} (S : Nat → Prop) (w : World) (base : Nat) : OwnK K S w base [] (.slice none 0 0) := ⟨[], World.ownsRow_nil _ _ _ _, fun i hi => by simp at hi⟩
theorem OwnK.slgB {α : Type} {K : Kd α} {S S' : Nat → Prop} {w : World} {base : Nat} {l : List α} {v : Value} (h : OwnK K S w base l v) (hSS : ∀ k, S k → S' k) (hS : ∀ k, base ≤ k → k < w.heap.size → S' k) (hby : l.length * K.bytes ≤ 140737488355328) : SlG S' w K.n K.bytes (K.R S' w) l v := by
 obtain ⟨xs, ⟨hlen, hown⟩, hr⟩ := h;rcases hown with ⟨rfl, hn⟩ | ⟨g, cap, cur, rfl, hbg, hh, hnc, hcm, hcs, htk⟩
 ·obtain rfl : l = [] := List.length_eq_zero_iff.1 hn
  exact ⟨none, 0, 0, 0, rfl, Nat.le_refl _, by simp, fun h => by omega, fun h => by simp at h, fun i hi => by simp at hi⟩
 ·have hgl := (Array.getElem?_eq_some_iff.1 hh).1
  refine ⟨_, g, 0, cap, rfl, hnc, hby, fun _ => rfl, fun _ => hS g hbg hgl, fun i hi => ?_⟩;obtain ⟨c, hc, hR⟩ := hr i hi;refine ⟨c, fun j hj => ?_, K.on hSS (fun _ _ => rfl) hR⟩;have h1 := hc j hj;rw [← htk, List.getElem?_take] at h1
  have hlt : i * K.n + j < l.length * K.n := by
   have : (i + 1) * K.n ≤ l.length * K.n := Nat.mul_le_mul_right _ hi;rw [Nat.succ_mul] at this; omega
  rw [if_pos hlt] at h1;rw [show 0 + i * K.n + j = i * K.n + j by omega];exact cell_of_block' hh _ (by rw [← Array.getElem?_toList]; exact h1)
theorem OwnK.slg' {α : Type} {K : Kd α} {S S' : Nat → Prop} {w : World} {base : Nat} {l : List α} {v : Value} (h : OwnK K S w base l v) (hSS : ∀ k, S k → S' k) (hS : ∀ k, base ≤ k → k < w.heap.size → S' k) (hl : l.length ≤ 100000) : SlG S' w K.n K.bytes (K.R S' w) l v := by
 have hby : l.length * K.bytes ≤ 140737488355328 := by
  have := Nat.mul_le_mul hl K.few;omega
 exact OwnK.slgB h hSS hS hby
end Go.Proofs.YtjmnnjikmmglpaaGreat
namespace Go.Proofs.YtjmnnjikmmglpaaGreat
open Go.RowKit
theorem one_row {α : Type} {K : Kd α} {S S1 : Nat → Prop} {w : World} {y : α} {b : Nat} {cs : Array Value} {t : TypeId} {fz : Nat × Nat} {c : Nat → Value} (hb : w.heap[b]? = some (.cells cs t fz)) (hS : S1 b) (hc : ∀ j, j < K.n → cs[j]? = some (c j)) (hR : K.R S w y c) :
  SlG S1 w K.n K.bytes (K.R S w) [y] (.slice (some ⟨b, 0, none⟩) 1 1) := by
 refine ⟨_, b, 0, 1, rfl, Nat.le_refl _, ?_, fun _ => rfl, fun _ => hS, fun i hi => ?_⟩
 ·have := K.few; simp; omega
 ·obtain rfl : i = 0 := by simp at hi; omega
  refine ⟨c, fun j hj => ?_, hR⟩;rw [show 0 + 0 * K.n + j = j by omega];exact cell_of_block' hb _ (hc j hj)
end Go.Proofs.YtjmnnjikmmglpaaGreat
namespace Go.Proofs.YtjmnnjikmmglpaaGreat
open Go.RowKit
theorem own_manyH {α : Type} {K : Kd α} {S S1 : Nat → Prop} {w : World} {base : Nat} {L m : List α} {lv x : Value} (hown : OwnK K S w base L lv) (hm : SlG S1 w K.n K.bytes (K.R S w) m x) (hS : ∀ k, S k → k < w.heap.size ∧ lv.ownBlock ≠ some k)
  (hbase : base ≤ w.heap.size) (hlen : L.length + m.length ≤ 100000) (ty : TypeId) :
  ∃ (v' : Value) (w6 : World), (Builtin.append_ #[K.ST, K.ST] ty #[lv, x]).run Tryz.prog w = .ok v' w6 ∧ OwnK K S w6 base (L ++ m) v' ∧ w.grownBy w6 lv.ownBlock ∧ (v'.ownBlock = lv.ownBlock ∨ v'.ownBlock = some w.heap.size) := by
 obtain ⟨i0, z, hi, hz0, hz1, hz2, hz3⟩ := K.info;obtain ⟨xs, hrow, hr⟩ := hown
 have hby : (L.length + m.length) * K.bytes ≤ 140737488355328 := by
  have := Nat.mul_le_mul hlen K.few;omega
 have keep : ∀ w6 : World, w.grownBy w6 lv.ownBlock → ∀ k, S k → w6.heap[k]? = w.heap[k]? := fun w6 hg k hk => hg.block k (hS k hk).1 (fun e => (hS k hk).2 e.symm)
 obtain ⟨a, cap, rfl⟩ := SlG.form hm;rcases a with _ | ⟨b, o, sp⟩
 ·obtain ⟨a', b', o', cap', e, h6, h7, h8, h9, h10⟩ := id hm
  cases e
  have hc0 : cap = 0 := by
   by_cases hc : 0 < cap
   ·have := h8 hc; cases this
   ·omega
  subst hc0;obtain rfl : m = [] := List.length_eq_zero_iff.1 (by omega);have hrun := run_append_owned_none (P := Tryz.prog) (w := w) base K.ST ty K.T i0 K.n K.und hi lv L.length xs hrow
  exact ⟨lv, w, hrun, ⟨xs, by simpa using hrow, fun i hi' => by
   have hi2 : i < L.length := by simpa using hi'
   obtain ⟨c, hc, hR⟩ := hr i hi2
   exact ⟨c, hc, by simpa using hR⟩⟩, World.grownBy.refl w _, .inl rfl⟩
 ·have hsp : sp = none ∨ m = [] ∧ cap = 0 := by
   obtain ⟨a', b', o', cap', e, h6, h7, h8, h9, h10⟩ := id hm
   cases e
   by_cases hc : 0 < cap
   ·have := h8 hc
    injection this with e; injection e with e1 e2 e3
    exact .inl e3
   ·exact .inr ⟨List.length_eq_zero_iff.1 (by omega), by omega⟩
  have main : ∀ (ys : List Value), ys.length = m.length * K.n → (∀ j u, ys[j]? = some u → w.cell? ((⟨b, o, sp⟩ : Addr).add j) = some u) → (∀ i (h : i < m.length), ∃ f : Nat → Value, (∀ j, j < K.n → ys[i * K.n + j]? = some (f j)) ∧ K.R S w m[i] f) → (∀ u ∈ ys, u.oneCell' = true) → m.length ≤ cap →
    ∃ (v' : Value) (w6 : World), (Builtin.append_ #[K.ST, K.ST] ty #[lv, .slice (some ⟨b, o, sp⟩) m.length cap]).run Tryz.prog w = .ok v' w6 ∧ OwnK K S w6 base (L ++ m) v' ∧ w.grownBy w6 lv.ownBlock ∧ (v'.ownBlock = lv.ownBlock ∨ v'.ownBlock = some w.heap.size) := by
   intro ys hy1 hy2 hy3 hy4 hcap;obtain ⟨v', w6, hrun, h1, h2, _, h5⟩ := run_append_own_at (P := Tryz.prog) w base K.ST ty K.T i0 z K.n K.bytes K.und hi hz0 hz1 hz2 hz3 K.pos lv L.length xs hrow ⟨b, o, sp⟩ m.length cap ys hy1 hy2 hy4 (by unfold maxLen; omega) hby hbase;refine ⟨v', w6, hrun, ⟨xs ++ ys, by rw [List.length_append]; exact h1, fun i hi' => ?_⟩, h2, h5⟩
   by_cases hlt : i < L.length
   ·obtain ⟨c', hc', hR⟩ := hr i hlt
    refine ⟨c', fun j hj => ?_, by rw [List.getElem_append_left hlt]; exact K.on (fun _ h => h) (keep w6 h2) hR⟩
    have hil : i * K.n + j < xs.length := by
     rw [hrow.1];have : (i + 1) * K.n ≤ L.length * K.n := Nat.mul_le_mul_right _ hlt;rw [Nat.succ_mul] at this; omega
    rw [List.getElem?_append_left hil]; exact hc' j hj
   ·have hi2 : i - L.length < m.length := by rw [List.length_append] at hi'; omega
    obtain ⟨c, hc, hR⟩ := hy3 (i - L.length) hi2;refine ⟨c, fun j hj => ?_, by rw [List.getElem_append_right (by omega)]; exact K.on (fun _ h => h) (keep w6 h2) hR⟩;have hge : L.length * K.n ≤ i * K.n := Nat.mul_le_mul_right _ (by omega);rw [List.getElem?_append_right (by rw [hrow.1]; omega), hrow.1, show i * K.n + j - L.length * K.n = (i - L.length) * K.n + j by rw [Nat.sub_mul]; omega];exact hc j hj
  rcases hsp with rfl | ⟨rfl, rfl⟩
  ·obtain ⟨-, f2, ys, f3, f4, f5, f6⟩ := SlG.flat K.pos hm
   exact main ys f3 (fun j u hu => by rw [add_lit']; exact f4 j u hu) f5 (fun u hu => by
    obtain ⟨i, hi', f, j, hj, rfl, hR⟩ := f6 u hu
    exact K.one hR j hj) f2
  ·exact main [] (by simp) (fun j u hu => by simp at hu) (fun i h => by simp at h) (fun u hu => by cases hu) (Nat.le_refl _)
end Go.Proofs.YtjmnnjikmmglpaaGreat
namespace Go.Proofs.YtjmnnjikmmglpaaGreat
open Go.RowKit Go.Maps
def kdStp : Kd Stp where
 T := 131
 ST := 83
 n := 3
 bytes := 24
 R := fun S w x c => RepStp S w x c
 pos := by omega
 few := by omega
 on := fun _ _ h => h
 one := fun h j hj => by
  obtain ⟨e0, e1, e2⟩ := h
  match j, hj with
  | 0, _ => rw [e0]; rfl
  | 1, _ => rw [e1]; rfl
  | 2, _ => rw [e2]; rfl
 und := Tryz.underlying83
 info := info_of (by kernel_rfl)
def StOwn (w : World) (B : Nat) (l : List Stp) (v : Value) : Prop := OwnK kdStp (fun _ => False) w B l v
theorem StOwn.nil (w : World) (B : Nat) : StOwn w B [] (.slice none 0 0) := OwnK.nil _ _ _
theorem StOwn.on {w w' : World} {B : Nat} {l : List Stp} {v : Value} (h : StOwn w B l v) (hb : Below w.heap.size w w') : StOwn w' B l v :=
 OwnK.on h (fun _ h => h) (fun _ h => h.elim) (fun k _ hk _ => hb.block k hk)
theorem StOwn.at {w : World} {B : Nat} {l : List Stp} {v : Value} (h : StOwn w B l v) (hl : l.length ≤ 100000) : RepStps (fun b => B ≤ b ∧ b < w.heap.size) w l v :=
 OwnK.slg' h (fun _ h => h.elim) (fun _ h1 h2 => ⟨h1, h2⟩) hl
theorem StOwn.down {w : World} {B B' : Nat} {l : List Stp} {v : Value} (h : StOwn w B l v) (hb : B' ≤ B) : StOwn w B' l v := by
 obtain ⟨xs, hown, hr⟩ := h;exact ⟨xs, ownsRow_down hown hb, hr⟩
def stCells (y : Stp) : Array Value := #[.int .i64 (y.rel : Int), .int .i64 (y.on : Int), .int .i64 (y.rise : Int)]
theorem st_append {w : World} {B b : Nat} {L : List Stp} {lv : Value} {y : Stp} (h : StOwn w B L lv) (hB : B ≤ w.heap.size) (hlen : L.length ≤ 1000) (hb : w.heap[b]? = some (.cells (stCells y) 131 (0, 0))) :
  ∃ (a : Option Addr) (cap : Nat) (w6 : World), (Builtin.append_ #[83, 83] 83 #[lv, .slice (some ⟨b, 0, none⟩) 1 1]).run Tryz.prog w = .ok (.slice a (L.length + 1) cap) w6 ∧
   StOwn w6 B (L ++ [y]) (.slice a (L.length + 1) cap) ∧ w.grownBy w6 lv.ownBlock ∧ ((Value.slice a (L.length + 1) cap).ownBlock = lv.ownBlock ∨ (Value.slice a (L.length + 1) cap).ownBlock = some w.heap.size) := by
 have hone := one_row (K := kdStp) (S := fun _ => False) (S1 := fun k => k = b) (c := fun j => (stCells y).getD j undef) (y := y) hb rfl (fun j hj => by
  match j, hj with
  | 0, _ => rfl
  | 1, _ => rfl
  | 2, _ => rfl) ⟨rfl, rfl, rfl⟩
 obtain ⟨v', w6, hrun, ho, hg, h5⟩ := own_manyH (K := kdStp) (S := fun _ => False) (m := [y]) h hone (fun _ h => h.elim) hB (by simp; omega) 83;obtain ⟨a, cap, rfl⟩ := OwnK.form ho;rw [List.length_append, List.length_singleton] at hrun ho h5;exact ⟨a, cap, w6, hrun, ho, hg, h5⟩
theorem below2 {B : Nat} {w w1 w2 : World} (h : Below B w w1) (h2 : Below B w1 w2) : Below B w w2 :=
 ⟨h2.os.trans h.os, h2.tape.trans h.tape, h2.output.trans h.output, Nat.le_trans h.size h2.size, fun b hb => (h2.block b hb).trans (h.block b hb)⟩
set_option maxRecDepth 100000 in
theorem at_run {w : World} {b n : Nat} {f : ByteArray → Option Nat} (h : AtMap w b n f) {s : ByteArray} {i : Nat} (hs : s.size ≤ maxLen) (hf : f s = some i) :
  (Instr.lookup 113 (.map (some b)) (.string s) false).run Tryz.prog w = .ok (.int .i64 (i : Int)) w := by
 obtain ⟨D, hown, hat⟩ := at_get h hs hf;obtain ⟨c, hrun, hc, -⟩ := hown.lookup_int keyName Tryz.underlying113 Tryz.underlying3 (zeroInt8 w) (keyOf_name hs);rw [hat] at hc
 injection hc with hc
 injection hc with _ hc
 rw [hrun, ← hc]
theorem atO_some {ds : List De} {s : ByteArray} (h : arityL ds s ≠ 0) : atO ds 0 s = some (atN ds s) := by
 obtain ⟨k, hk⟩ := atO_of_arity s ds 0 h;rw [atN, hk]; rfl
end Go.Proofs.YtjmnnjikmmglpaaGreat
