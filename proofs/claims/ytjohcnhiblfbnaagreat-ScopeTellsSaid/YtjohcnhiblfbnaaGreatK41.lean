/-
  FitKit, FitKitV, FitKitR, FitKitB
-/
import Derived.Test.YtjohcnhiblfbnaaGreatK40
namespace Go.Proofs.YtjohcnhiblfbnaaGreat
open Go.RowKit
theorem take_map_len {α β : Type} (f : α → β) (l : List α) {k : Nat} (h : k ≤ l.length) : ((l.take k).map f).length = k := by
 rw [List.length_map, List.length_take]; omega
theorem take_map_succ {α β : Type} (f : α → β) (l : List α) {k : Nat} (h : k < l.length) : (l.take (k + 1)).map f = (l.take k).map f ++ [f l[k]] := by
 rw [List.take_succ_eq_append_getElem h, List.map_append]; rfl
theorem take_map_end {α β : Type} (f : α → β) (l : List α) {k n : Nat} (h : ¬ (k < n ∧ k < l.length)) (hn : k ≤ n) (hl : k ≤ l.length) : (l.take k).map f = (l.take n).map f := by
 by_cases e : k = n
 ·rw [e]
 ·rw [List.take_of_length_le (by omega), List.take_of_length_le (by omega)]
end Go.Proofs.YtjohcnhiblfbnaaGreat
namespace Go.Proofs.YtjohcnhiblfbnaaGreat
open Go.RowKit
def MineX {α : Type} (K : Kd α) (X : Nat) (w : World) (base : Nat) (l : List α) (v : Value) : Prop := OwnK K (fun b => base ≤ b ∧ b < w.heap.size ∧ v.ownBlock ≠ some b ∧ b ≠ X) w base l v ∧ v.ownBlock ≠ some X
section
variable {α : Type} {K : Kd α} {X : Nat} {w w' : World} {base : Nat} {l : List α} {v : Value}
theorem MineX.stands (h : MineX K X w base l v) (hb : Below w.heap.size w w') : MineX K X w' base l v :=
 ⟨OwnK.on h.1 (fun _ hk => ⟨hk.1, Nat.lt_of_lt_of_le hk.2.1 hb.size, hk.2.2⟩) (fun k hk => hb.block k hk.2.1) (fun k _ h2 _ => hb.block k h2), h.2⟩
theorem MineX.but (h : MineX K X w base l v) (hb : But X w.heap.size w w') : MineX K X w' base l v :=
 ⟨OwnK.on h.1 (fun _ hk => ⟨hk.1, Nat.lt_of_lt_of_le hk.2.1 hb.size, hk.2.2⟩) (fun k hk => hb.block k hk.2.1 hk.2.2.2) (fun k _ h2 h3 => hb.block k h2 (fun e => h.2 (by rw [← e]; exact h3))), h.2⟩
theorem MineX.set (h : MineX K X w base l v) (i : Nat) (c : Value) : MineX K X (w.setCell ⟨X, i, none⟩ c) base l v := h.but ((But.refl X _ w).set i c)
theorem MineX.form (h : MineX K X w base l v) : ∃ a cap, v = .slice a l.length cap := OwnK.form h.1
end
abbrev MineE (X : Nat) (w : World) (base : Nat) (l : List V) (v : Value) : Prop := MineX kdV X w base l v
theorem MineE.one {w : World} {X base b : Nat} {y : V} {c0 c1 c2 c3 : Value} (hb : w.heap[b]? = some (.cells #[c0, c1, c2, c3] 31 (0, 0))) (hB : base ≤ b) (hX : b ≠ X) (h : RepG (fun _ => False) w y c0 c1 c2 c3) :
  MineE X w base [y] (.slice (some ⟨b, 0, none⟩) 1 1) := by
 refine ⟨⟨[c0, c1, c2, c3], ⟨rfl, .inr ⟨b, 1, _, rfl, hB, hb, Nat.le_refl _, by decide, rfl, rfl⟩⟩, fun i hi => ?_⟩, fun e => hX (Option.some.inj e)⟩;obtain rfl : i = 0 := by simpa using hi
 exact ⟨at4v c0 c1 c2 c3, fun j hj => match j, hj with | 0, _ => rfl | 1, _ => rfl | 2, _ => rfl | 3, _ => rfl, RepG.on (fun _ h => h.elim) (fun _ h => h.elim) y h⟩
theorem own_appendE {w : World} {X base : Nat} {L : List V} {lv : Value} {y : V} {c : Nat → Value} {cs : Array Value} {b : Nat} {t : TypeId} {fz : Nat × Nat} (hown : MineE X w base L lv) (hX : X < w.heap.size) (hbase : base ≤ w.heap.size) (hlen : L.length ≤ 1000)
  (hb : w.heap[b]? = some (.cells cs t fz)) (hcs : cs.size = 4) (hc : ∀ j, j < 4 → cs[j]? = some (c j)) (hrep : RepG (fun b' => base ≤ b' ∧ b' < w.heap.size ∧ lv.ownBlock ≠ some b' ∧ b' ≠ X) w y (c 0) (c 1) (c 2) (c 3)) (ty : TypeId) :
  ∃ (a : Option Addr) (cap : Nat) (w6 : World), (Builtin.append_ #[29, 29] ty #[lv, .slice (some ⟨b, 0, none⟩) 1 1]).run Tryz.prog w = .ok (.slice a (L.length + 1) cap) w6 ∧
   MineE X w6 base (L ++ [y]) (.slice a (L.length + 1) cap) ∧ w.grownBy w6 lv.ownBlock := by
 obtain ⟨i0, z, hi, hz0, hz1, hz2, hz3⟩ := kdV.info;obtain ⟨⟨xs, hrow, hr⟩, hnX⟩ := hown;have hby : (L.length + 1) * 56 ≤ 140737488355328 := by omega
 obtain ⟨v', w6, hrun, h1, h2, _, h5⟩ := run_append_own_at (P := Tryz.prog) w base 29 ty 31 i0 z 4 56 kdV.und hi hz0 hz1 hz2 hz3 (by omega) lv L.length xs hrow ⟨b, 0, none⟩ 1 1 cs.toList (by simp [hcs])
  (fun j u hj => by
   have e : ((⟨b, 0, none⟩ : Addr).add j) = ⟨b, 0 + j, none⟩ := add_lit' _ _ _;rw [e, Nat.zero_add]
   exact cell_of_block' hb u (by rw [← Array.getElem?_toList]; exact hj))
  (fun u hu => by
   obtain ⟨j, hj, rfl⟩ := List.getElem_of_mem hu;have hjn : j < 4 := by rw [← hcs]; simpa using hj
   have h1 := hc j hjn;have h2 : cs[j]? = some (cs.toList[j]) := by rw [← Array.getElem?_toList]; exact List.getElem?_eq_getElem hj
   rw [Option.some.inj (h2.symm.trans h1)]
   exact kdV.one (S := fun b' => base ≤ b' ∧ b' < w.heap.size ∧ lv.ownBlock ≠ some b' ∧ b' ≠ X) (w := w) (x := y) (c := c) hrep j hjn) (by unfold maxLen; omega) hby hbase
 have hsub : ∀ k, (base ≤ k ∧ k < w.heap.size ∧ lv.ownBlock ≠ some k ∧ k ≠ X) → (base ≤ k ∧ k < w6.heap.size ∧ v'.ownBlock ≠ some k ∧ k ≠ X) := fun k hk => by
  have := h2.size;refine ⟨hk.1, by omega, fun e => ?_, hk.2.2.2⟩;rcases h5 with h5 | h5
  ·exact hk.2.2.1 (h5.symm.trans e)
  ·rw [h5] at e; have := Option.some.inj e; omega
 have hsame : ∀ k, (base ≤ k ∧ k < w.heap.size ∧ lv.ownBlock ≠ some k ∧ k ≠ X) → w6.heap[k]? = w.heap[k]? := fun k hk => h2.block k hk.2.1 (fun e => hk.2.2.1 e.symm)
 have hm : MineE X w6 base (L ++ [y]) v' := by
  refine ⟨⟨xs ++ cs.toList, by rw [List.length_append]; exact h1, fun i hi => ?_⟩, fun e => ?_⟩
  ·by_cases hlt : i < L.length
   ·obtain ⟨c', hc', hR⟩ := hr i hlt
    refine ⟨c', fun j hj => ?_, by rw [List.getElem_append_left hlt]; exact kdV.on hsub hsame hR⟩;have hj4 : j < 4 := hj;have hxl : xs.length = L.length * 4 := hrow.1;have hil : i * 4 + j < xs.length := by omega
    show (xs ++ cs.toList)[i * 4 + j]? = _
    rw [List.getElem?_append_left hil]; exact hc' j hj
   ·obtain rfl : i = L.length := by simp at hi; omega
    refine ⟨c, fun j hj => ?_, by rw [List.getElem_append_right (Nat.le_refl _)]; simpa using kdV.on hsub hsame (show kdV.R _ w y c from hrep)⟩;have hxl : xs.length = L.length * 4 := hrow.1
    show (xs ++ cs.toList)[L.length * 4 + j]? = _
    rw [List.getElem?_append_right (by omega), hxl, show L.length * 4 + j - L.length * 4 = j by omega, Array.getElem?_toList];exact hc j hj
  ·rcases h5 with h5 | h5
   ·exact hnX (h5.symm.trans e)
   ·rw [h5] at e; have := Option.some.inj e; omega
 obtain ⟨a, cap, rfl⟩ := MineX.form hm;rw [List.length_append] at hrun hm;exact ⟨a, cap, w6, hrun, hm, h2⟩
theorem OwnK.slg {α : Type} {K : Kd α} {S S' : Nat → Prop} {w : World} {base : Nat} {l : List α} {v : Value} (h : OwnK K S w base l v) (hS : ∀ k, S k → S' k) (hS2 : ∀ k, base ≤ k → k < w.heap.size → S' k) (hl : l.length ≤ 100000) : SlG S' w K.n K.bytes (K.R S' w) l v := by
 obtain ⟨xs, ⟨hlen, hown⟩, hr⟩ := h
 have hby : l.length * K.bytes ≤ 140737488355328 := by
  have := Nat.mul_le_mul hl K.few;omega
 rcases hown with ⟨rfl, hn⟩ | ⟨g, cap, cur, rfl, hbg, hh, hnc, hcm, hcs, htk⟩
 ·obtain rfl : l = [] := List.length_eq_zero_iff.1 hn
  exact ⟨none, 0, 0, 0, rfl, Nat.le_refl _, by simp, fun h => by omega, fun h => by simp at h, fun i hi => by simp at hi⟩
 ·have hgl := (Array.getElem?_eq_some_iff.1 hh).1
  refine ⟨_, g, 0, cap, rfl, hnc, hby, fun _ => rfl, fun _ => hS2 g hbg hgl, fun i hi => ?_⟩;obtain ⟨c, hc, hR⟩ := hr i hi;refine ⟨c, fun j hj => ?_, K.on hS (fun _ _ => rfl) hR⟩;have h1 := hc j hj;rw [← htk, List.getElem?_take] at h1
  have hlt : i * K.n + j < l.length * K.n := by
   have : (i + 1) * K.n ≤ l.length * K.n := Nat.mul_le_mul_right _ hi;rw [Nat.succ_mul] at this; omega
  rw [if_pos hlt] at h1;rw [show 0 + i * K.n + j = i * K.n + j by omega];exact cell_of_block' hh _ (by rw [← Array.getElem?_toList]; exact h1)
theorem lg_of_slgF {S : Nat → Prop} {w : World} {l : List V} {v : Value} (h : SlG S w 4 56 (fun x c => RepG S w x (c 0) (c 1) (c 2) (c 3)) l v) : RepLG S w l v := by
 obtain ⟨a, b, o, cap, e, h1, h2, h3, h4, h5⟩ := h
 exact ⟨a, b, o, cap, e, h1, h2, h3, h4, fun i hi => by
  obtain ⟨c, hc, hr⟩ := h5 i hi
  exact ⟨c 0, c 1, c 2, c 3, hc 0 (by omega), hc 1 (by omega), hc 2 (by omega), hc 3 (by omega), hr⟩⟩
theorem MineE.lg {X : Nat} {S' : Nat → Prop} {w : World} {base : Nat} {l : List V} {v : Value} (h : MineE X w base l v) (hS : ∀ k, base ≤ k → k < w.heap.size → S' k) (hl : l.length ≤ 100000) : RepLG S' w l v :=
 lg_of_slgF (OwnK.slg h.1 (fun k hk => hS k hk.1 hk.2.1) hS hl)
def MadeV (B : Nat) (y : V) (w : World) (v : Value) : Prop := ∃ d0 d1 d2 d3, v = .agg #[d0, d1, d2, d3] ∧ RepG (fun b => B ≤ b ∧ b < w.heap.size) w y d0 d1 d2 d3
theorem MadeV.stay {B : Nat} {y : V} {w w' : World} {v : Value} (hb : Below w.heap.size w w') (h : MadeV B y w v) : MadeV B y w' v := by
 obtain ⟨d0, d1, d2, d3, e, h⟩ := h;exact ⟨d0, d1, d2, d3, e, RepG.on (fun k hk => ⟨hk.1, Nat.lt_of_lt_of_le hk.2 hb.size⟩) (fun k hk => hb.block k hk.2) y h⟩
def RowV (B : Nat) (y : V) (w : World) (v : Value) : Prop := ∃ b d0 d1 d2 d3, v = .slice (some ⟨b, 0, none⟩) 1 1 ∧ w.heap[b]? = some (.cells #[d0, d1, d2, d3] 31 (0, 0)) ∧ B ≤ b ∧ RepG (fun b => B ≤ b ∧ b < w.heap.size) w y d0 d1 d2 d3
theorem RowV.stay {B : Nat} {y : V} {w w' : World} {v : Value} (hb : Below w.heap.size w w') (h : RowV B y w v) : RowV B y w' v := by
 obtain ⟨b, d0, d1, d2, d3, e, h1, h2, h3⟩ := h;exact ⟨b, d0, d1, d2, d3, e, (hb.block b (Array.getElem?_eq_some_iff.1 h1).1).trans h1, h2, RepG.on (fun k hk => ⟨hk.1, Nat.lt_of_lt_of_le hk.2 hb.size⟩) (fun k hk => hb.block k hk.2) y h3⟩
theorem RowV.new {B : Nat} {y : V} {w : World} {d0 d1 d2 d3 : Value} (hB : B ≤ w.heap.size) (h : RepG (fun b => B ≤ b ∧ b < w.heap.size) w y d0 d1 d2 d3) : RowV B y (w.alloc (.cells #[d0, d1, d2, d3] 31)) (.slice (some ⟨w.heap.size, 0, none⟩) 1 1) :=
 ⟨_, d0, d1, d2, d3, rfl, alloc_new' w _, hB, RepG.on (fun k hk => ⟨hk.1, by simp; omega⟩) (fun k hk => Below.heap_alloc _ _ _ hk.2) y h⟩
theorem MadeV.of {B : Nat} {y : V} {w w' : World} {e : Ending} (hB : B ≤ w.heap.size) (h : FitPost y w e w') : ∃ v, e = .returned v ∧ MadeV B y w' v ∧ Below w.heap.size w w' := by
 obtain ⟨d0, d1, d2, d3, rfl, h, hb⟩ := h;exact ⟨_, rfl, ⟨d0, d1, d2, d3, rfl, RepG.on (fun k hk => ⟨by omega, hk.2⟩) (fun _ _ => rfl) y h⟩, hb⟩
end Go.Proofs.YtjohcnhiblfbnaaGreat
namespace Go.Proofs.YtjohcnhiblfbnaaGreat
open Go.RowKit
def NoRow (w : World) (X : Nat) : Prop := (∀ o n m, w.cell? ⟨X, o, none⟩ = some (.int .i64 n) → w.cell? ⟨X, o + 1, none⟩ = some (.int .i64 m) → False) ∧ (∀ o n s, w.cell? ⟨X, o, none⟩ = some (.int .i64 n) → w.cell? ⟨X, o + 1, none⟩ = some (.string s) → False)
theorem RepG.off {S : Nat → Prop} {w : World} {X : Nat} (hX : NoRow w X) : ∀ (x : V) {c0 c1 c2 c3 : Value}, RepG S w x c0 c1 c2 c3 → RepG (fun k => S k ∧ k ≠ X) w x c0 c1 c2 c3
 | .mk k n s l, c0, c1, c2, c3, h => by
  rw [repG_mk] at h ⊢;obtain ⟨h0, h1, h2, h3, h4, h5, a, b, o, cap, e, h6, h7, h8, h9, h10⟩ := h;refine ⟨h0, h1, h2, h3, h4, h5, a, b, o, cap, e, h6, h7, h8, fun hl => ⟨h9 hl, fun eb => ?_⟩, fun i hi => ?_⟩
  ·obtain ⟨x0, x1, x2, x3, g0, g1, g2, g3, g⟩ := h10 0 hl
   obtain ⟨_, _, rfl, rfl, rfl, rfl⟩ := g.form;subst eb;exact hX.1 _ _ _ g0 g1
  ·obtain ⟨x0, x1, x2, x3, g0, g1, g2, g3, g⟩ := h10 i hi
   exact ⟨x0, x1, x2, x3, g0, g1, g2, g3, RepG.off hX l[i] g⟩
 termination_by x => SizeOf.sizeOf x
 decreasing_by
  have := List.sizeOf_lt_of_mem (List.getElem_mem hi);simp only [V.mk.sizeOf_spec]
  omega
theorem RepM.off {S : Nat → Prop} {w : World} {X : Nat} (hX : NoRow w X) : ∀ (x : Tm) {c0 c1 c2 c3 c4 c5 c6 : Value}, RepM S w x c0 c1 c2 c3 c4 c5 c6 → RepM (fun k => S k ∧ k ≠ X) w x c0 c1 c2 c3 c4 c5 c6
 | .mk k s x l, c0, c1, c2, c3, c4, c5, c6, h => by
  rw [repM_mk] at h ⊢;obtain ⟨h0, h1, h2, h3, h4, a, b, o, cap, e, h6, h7, h8, h9, h10⟩ := h;refine ⟨h0, h1, h2, h3, RepG.off hX x h4, a, b, o, cap, e, h6, h7, h8, fun hl => ⟨h9 hl, fun eb => ?_⟩, fun i hi => ?_⟩
  ·obtain ⟨c, hc, hr⟩ := h10 0 hl
   obtain ⟨_, _, _, _, e0, e1, -⟩ := hr.form;subst eb;exact hX.2 _ _ _ ((hc 0 (by omega)).trans (by rw [e0])) ((hc 1 (by omega)).trans (by rw [e1]))
  ·obtain ⟨c, hc, hr⟩ := h10 i hi
   exact ⟨c, hc, RepM.off hX l[i] hr⟩
 termination_by x => SizeOf.sizeOf x
 decreasing_by
  have := List.sizeOf_lt_of_mem (List.getElem_mem hi);simp only [Tm.mk.sizeOf_spec]
  omega
theorem noRow_ru {w : World} {X : Nat} {s0 s1 s3 : ByteArray} {a2 a5 : Option Addr} {n2 c2 n5 c5 : Nat} {i4 : Int} (h : BoxRu w X (.string s0) (.string s1) (.slice a2 n2 c2) (.string s3) (.int .i64 i4) (.slice a5 n5 c5)) : NoRow w X := by
 obtain ⟨k0, k1, k2, k3, k4, k5⟩ := h.cells
 have hout : ∀ o, 6 ≤ o → ∀ v, w.cell? ⟨X, o, none⟩ = some v → False := fun o ho v e => by
  have hb : w.heap[X]? = some _ := h;have hn : (#[.string s0, .string s1, .slice a2 n2 c2, .string s3, .int .i64 i4, .slice a5 n5 c5] : Array Value)[o]? = none := Array.getElem?_eq_none (by simp; omega);have e2 : w.cell? ⟨X, o, none⟩ = none := by simp only [World.cell?, hb]; first | exact hn | (rw [hn]; rfl) | simp [hn]
  rw [e2] at e; cases e
 refine ⟨fun o n m h1 h2 => ?_, fun o n s h1 h2 => ?_⟩ <;>
 ·match o with
  | 0 => rw [k0] at h1; cases h1
  | 1 => rw [k1] at h1; cases h1
  | 2 => rw [k2] at h1; cases h1
  | 3 => rw [k3] at h1; cases h1
  | 4 => rw [k5] at h2; cases h2
  | 5 => rw [k5] at h1; cases h1
  | o + 6 => exact hout (o + 6) (by omega) _ h1
theorem MineX.of {w : World} {base X : Nat} {l : List Tm} {v : Value} {cs : Array Value} {fz : Nat × Nat} (h : MineK kdTm w base l v) (hbox : w.heap[X]? = some (.cells cs 61 fz)) (hX : NoRow w X) : MineX kdTm X w base l v := by
 obtain ⟨xs, hown, hr⟩ := h
 have hne : v.ownBlock ≠ some X := by
  rcases hown.2 with ⟨rfl, -⟩ | ⟨g, cap, cur, rfl, -, hh, -⟩
  ·simp [Value.ownBlock]
  ·intro e
   obtain rfl : g = X := Option.some.inj e;have h1 := Option.some.inj (hh.symm.trans hbox);have h2 : kdTm.T = 61 := by injection h1
   exact absurd h2 (by decide)
 refine ⟨⟨xs, hown, fun i hi => ?_⟩, hne⟩;obtain ⟨c, hc, hR⟩ := hr i hi;exact ⟨c, hc, RepM.on (fun k hk => ⟨hk.1.1, hk.1.2.1, hk.1.2.2, hk.2⟩) (fun _ _ => rfl) _ (RepM.off hX _ hR)⟩
def put7 (w : World) (g o : Nat) (c0 c1 c2 c3 c4 c5 c6 : Value) : World := ((((((w.setCell ⟨g, o, none⟩ c0).setCell ⟨g, o + 1, none⟩ c1).setCell ⟨g, o + 2, none⟩ c2).setCell ⟨g, o + 3, none⟩ c3).setCell ⟨g, o + 4, none⟩ c4).setCell ⟨g, o + 5, none⟩ c5).setCell ⟨g, o + 6, none⟩ c6
theorem put7_size (w : World) (g o : Nat) (c0 c1 c2 c3 c4 c5 c6 : Value) : (put7 w g o c0 c1 c2 c3 c4 c5 c6).heap.size = w.heap.size := by simp [put7, World.setCell]
theorem put7_other (w : World) (g o : Nat) (c0 c1 c2 c3 c4 c5 c6 : Value) (k : Nat) (h : k ≠ g) : (put7 w g o c0 c1 c2 c3 c4 c5 c6).heap[k]? = w.heap[k]? := by
 unfold put7;rw [Below.heap_setCell _ _ _ _ h, Below.heap_setCell _ _ _ _ h, Below.heap_setCell _ _ _ _ h, Below.heap_setCell _ _ _ _ h, Below.heap_setCell _ _ _ _ h, Below.heap_setCell _ _ _ _ h, Below.heap_setCell _ _ _ _ h]
theorem put7_below {w0 w : World} {B g : Nat} (h : Below B w0 w) (hb : B ≤ g) (o : Nat) (c0 c1 c2 c3 c4 c5 c6 : Value) : Below B w0 (put7 w g o c0 c1 c2 c3 c4 c5 c6) :=
 ((((((h.setCell (p := ⟨g, o, none⟩) hb c0).setCell (p := ⟨g, o + 1, none⟩) hb c1).setCell (p := ⟨g, o + 2, none⟩) hb c2).setCell (p := ⟨g, o + 3, none⟩) hb c3).setCell (p := ⟨g, o + 4, none⟩) hb c4).setCell (p := ⟨g, o + 5, none⟩) hb c5).setCell (p := ⟨g, o + 6, none⟩) hb c6
set_option maxHeartbeats 4000000 in
theorem MineX.put {w : World} {base X g cap : Nat} {L : List Tm} (h : MineX kdTm X w base L (.slice (some ⟨g, 0, none⟩) L.length cap)) {i : Nat} (hi : i < L.length) (s : ByteArray) (hs : s.size ≤ maxLen) :
  MineX kdTm X (put7 w g (i * 7) (.int .i64 1) (.string s) (.int .i64 0) (.int .i64 0) (.string ⟨#[]⟩) (.slice none 0 0) (.slice none 0 0)) base (L.set i (.mk 1 s nV [])) (.slice (some ⟨g, 0, none⟩) L.length cap) := by
 obtain ⟨⟨xs, ⟨hlen, hown⟩, hr⟩, hX⟩ := h;rcases hown with ⟨h1, hn⟩ | ⟨g', cap', cur, h1, hbg, hh, hnc, hcm, hcs, htk⟩
 ·omega
 cases h1
 have hcs' : cur.size = cap * 7 := hcs;have hlen' : xs.length = L.length * 7 := hlen;have hsz : L.length * 7 ≤ cur.size := by rw [hcs']; exact Nat.mul_le_mul_right _ hnc
 have hh7 := heap_setCell_same _ g (i * 7 + 6) _ _ (.slice none 0 0) (heap_setCell_same _ g (i * 7 + 5) _ _ (.slice none 0 0) (heap_setCell_same _ g (i * 7 + 4) _ _ (.string ⟨#[]⟩) (heap_setCell_same _ g (i * 7 + 3) _ _ (.int .i64 0) (heap_setCell_same _ g (i * 7 + 2) _ _ (.int .i64 0) (heap_setCell_same _ g (i * 7 + 1) _ _ (.string s) (heap_setCell_same _ g (i * 7) _ _ (.int .i64 1) hh))))));refine ⟨⟨_, ⟨?_, .inr ⟨g, cap, _, by rw [List.length_set], hbg, hh7, by rw [List.length_set]; exact hnc, hcm, by simpa using hcs, rfl⟩⟩, fun i' hi' => ?_⟩, hX⟩
 ·rw [List.length_take, List.length_set]
  simp only [Array.length_toList, Array.size_setIfInBounds]
  exact Nat.min_eq_left hsz
 ·rw [List.length_set] at hi'
  have hr' := hr i' hi';obtain ⟨c, hc, hR⟩ := hr'
  by_cases e : i' = i
  ·subst e
   refine ⟨at7v (.int .i64 1) (.string s) (.int .i64 0) (.int .i64 0) (.string ⟨#[]⟩) (.slice none 0 0) (.slice none 0 0), fun j hj => ?_, ?_⟩
   ·have hj7 : j < 7 := hj
    show ((_ : List Value).take ((L.set i' _).length * 7))[i' * 7 + j]? = _
    rw [List.length_set, List.getElem?_take_of_lt (by omega), Array.getElem?_toList]
    match j, hj7 with
    | 0, _ => simp [Array.getElem?_setIfInBounds, at7v]; omega
    | 1, _ => simp [Array.getElem?_setIfInBounds, at7v]; omega
    | 2, _ => simp [Array.getElem?_setIfInBounds, at7v]; omega
    | 3, _ => simp [Array.getElem?_setIfInBounds, at7v]; omega
    | 4, _ => simp [Array.getElem?_setIfInBounds, at7v]; omega
    | 5, _ => simp [Array.getElem?_setIfInBounds, at7v]; omega
    | 6, _ => simp [Array.getElem?_setIfInBounds, at7v]; omega
   ·rw [List.getElem_set_self]
    exact repM_mk.2 ⟨rfl, rfl, small64 (by omega), hs, zV_rep _ _, slg_nil⟩
  ·refine ⟨c, fun j hj => ?_, ?_⟩
   ·have hj7 : j < 7 := hj
    have h1 := hc j hj;have hlt : i' * 7 + j < L.length * 7 := by omega
    show ((_ : List Value).take ((L.set i _).length * 7))[i' * 7 + j]? = _
    rw [← htk] at h1;have h1' : (cur.toList.take (L.length * 7))[i' * 7 + j]? = some (c j) := h1;rw [List.getElem?_take_of_lt hlt, Array.getElem?_toList] at h1';rw [List.length_set, List.getElem?_take_of_lt hlt, Array.getElem?_toList, Array.getElem?_setIfInBounds_ne (by omega), Array.getElem?_setIfInBounds_ne (by omega), Array.getElem?_setIfInBounds_ne (by omega), Array.getElem?_setIfInBounds_ne (by omega), Array.getElem?_setIfInBounds_ne (by omega), Array.getElem?_setIfInBounds_ne (by omega), Array.getElem?_setIfInBounds_ne (by omega)];exact h1'
   ·rw [List.getElem_set_ne (fun e' => e e'.symm)]
    refine RepM.on (fun k hk => ⟨hk.1, by rw [put7_size]; exact hk.2.1, hk.2.2⟩) (fun k hk => put7_other _ _ _ _ _ _ _ _ _ _ k (fun e' => hk.2.2.1 (by rw [e']; rfl))) _ hR
end Go.Proofs.YtjohcnhiblfbnaaGreat
namespace Go.Proofs.YtjohcnhiblfbnaaGreat
open Go.RowKit
def BoxZ (B : Nat) (w : World) (v : Value) : Prop := ∃ b, v = .pointer (some ⟨b, 0, none⟩) ∧ B ≤ b ∧ BoxRu w b (.string ⟨#[]⟩) (.string ⟨#[]⟩) (.slice none 0 0) (.string ⟨#[]⟩) (.int .i64 0) (.slice none 0 0)
theorem BoxZ.stay {B : Nat} {w w' : World} {v : Value} (hb : Below w.heap.size w w') (h : BoxZ B w v) : BoxZ B w' v := by
 obtain ⟨b, e, h1, h2⟩ := h;exact ⟨b, e, h1, h2.on hb⟩
theorem BoxZ.new {B : Nat} {w : World} (hB : B ≤ w.heap.size) : BoxZ B (w.alloc (.cells #[.string ⟨#[]⟩, .string ⟨#[]⟩, .slice none 0 0, .string ⟨#[]⟩, .int .i64 0, .slice none 0 0] 61)) (.pointer (some ⟨w.heap.size, 0, none⟩)) :=
 ⟨_, rfl, hB, boxRu_new _ _ _ _ _ _ _⟩
def MadeArgs (B : Nat) (l : List Tm) (w : World) (v : Value) : Prop := ∃ a cap, v = .slice a l.length cap ∧ MineK kdTm w B l v
theorem MadeArgs.stay {B : Nat} {l : List Tm} {w w' : World} {v : Value} (hb : Below w.heap.size w w') (h : MadeArgs B l w v) : MadeArgs B l w' v := by
 obtain ⟨a, cap, e, h⟩ := h;exact ⟨a, cap, e, h.stands hb⟩
theorem MadeArgs.of {B : Nat} {l : List Tm} {w w' : World} {v : Value} (hB : B ≤ w.heap.size) (h : MineK kdTm w' w.heap.size l v) : MadeArgs B l w' v := by
 obtain ⟨a, cap, rfl⟩ := OwnK.form h;exact ⟨a, cap, rfl, h.down hB⟩
def MadeHead (B : Nat) (s0 s1 : ByteArray) (l : List Tm) (w : World) (v : Value) : Prop := ∃ a cap, v = .agg #[.string s0, .string s1, .slice a l.length cap, .string ⟨#[]⟩, .int .i64 0, .slice none 0 0] ∧ MineK kdTm w B l (.slice a l.length cap)
theorem MadeHead.stay {B : Nat} {s0 s1 : ByteArray} {l : List Tm} {w w' : World} {v : Value} (hb : Below w.heap.size w w') (h : MadeHead B s0 s1 l w v) : MadeHead B s0 s1 l w' v := by
 obtain ⟨a, cap, e, h⟩ := h;exact ⟨a, cap, e, h.stands hb⟩
def set6F (w : World) (b : Nat) (c0 c1 c2 c3 c4 c5 : Value) : World := (((((w.setCell ⟨b, 0, none⟩ c0).setCell ⟨b, 1, none⟩ c1).setCell ⟨b, 2, none⟩ c2).setCell ⟨b, 3, none⟩ c3).setCell ⟨b, 4, none⟩ c4).setCell ⟨b, 5, none⟩ c5
theorem set6F_below {w0 w : World} {B b : Nat} (h : Below B w0 w) (hb : B ≤ b) (c0 c1 c2 c3 c4 c5 : Value) : Below B w0 (set6F w b c0 c1 c2 c3 c4 c5) :=
 (((((h.setCell (p := ⟨b, 0, none⟩) hb c0).setCell (p := ⟨b, 1, none⟩) hb c1).setCell (p := ⟨b, 2, none⟩) hb c2).setCell (p := ⟨b, 3, none⟩) hb c3).setCell (p := ⟨b, 4, none⟩) hb c4).setCell (p := ⟨b, 5, none⟩) hb c5
theorem set6F_box {w : World} {b : Nat} {d0 d1 d2 d3 d4 d5 : Value} (h : BoxRu w b d0 d1 d2 d3 d4 d5) (c0 c1 c2 c3 c4 c5 : Value) : BoxRu (set6F w b c0 c1 c2 c3 c4 c5) b c0 c1 c2 c3 c4 c5 :=
 heap_setCell_same _ _ _ _ _ _ (heap_setCell_same _ _ _ _ _ _ (heap_setCell_same _ _ _ _ _ _ (heap_setCell_same _ _ _ _ _ _ (heap_setCell_same _ _ _ _ _ _ (heap_setCell_same _ _ _ _ _ _ h)))))
theorem MineX.set6F {α : Type} {K : Kd α} {X base : Nat} {w : World} {l : List α} {v : Value} (h : MineX K X w base l v) (c0 c1 c2 c3 c4 c5 : Value) : MineX K X (set6F w X c0 c1 c2 c3 c4 c5) base l v :=
 (((((h.set 0 c0).set 1 c1).set 2 c2).set 3 c3).set 4 c4).set 5 c5
theorem box_put {w : World} {b g o : Nat} {d0 d1 d2 d3 d4 d5 : Value} (h : BoxRu w b d0 d1 d2 d3 d4 d5) (hne : b ≠ g) (c0 c1 c2 c3 c4 c5 c6 : Value) : BoxRu (put7 w g o c0 c1 c2 c3 c4 c5 c6) b d0 d1 d2 d3 d4 d5 :=
 (put7_other w g o c0 c1 c2 c3 c4 c5 c6 b hne).trans h
theorem MineX.row {X base : Nat} {w : World} {l : List Tm} {a : Option Addr} {cap : Nat} (h : MineX kdTm X w base l (.slice a l.length cap)) (hl : 0 < l.length) : ∃ g cur, a = some ⟨g, 0, none⟩ ∧ base ≤ g ∧ g ≠ X ∧ w.heap[g]? = some (.cells cur 34 (0, 0)) ∧ l.length * 7 ≤ cur.size := by
 obtain ⟨⟨xs, ⟨hlen, hown⟩, -⟩, hX⟩ := h;rcases hown with ⟨h1, hn⟩ | ⟨g, cap', cur, h1, hbg, hh, hnc, hcm, hcs, htk⟩
 ·omega
 ·cases h1
  exact ⟨g, cur, rfl, hbg, fun e => hX (by rw [e]; rfl), hh, by have hcs' : cur.size = cap * 7 := hcs; rw [hcs']; exact Nat.mul_le_mul_right _ hnc⟩
theorem row_cell {w : World} {g : Nat} {cur : Array Value} {t : TypeId} (h : w.heap[g]? = some (.cells cur t (0, 0))) (o : Nat) (ho : o < cur.size) : ∃ c, w.cell? ⟨g, o, none⟩ = some c :=
 ⟨cur[o], cell_of_block' h _ (Array.getElem?_eq_getElem ho)⟩
def MadeL (B : Nat) (y : Li) (w : World) (v : Value) : Prop := ∃ d0 d1 d2, v = .agg #[d0, d1, d2] ∧ RepLi (fun b => B ≤ b ∧ b < w.heap.size) w y d0 d1 d2
theorem MadeL.stay {B : Nat} {y : Li} {w w' : World} {v : Value} (hb : Below w.heap.size w w') (h : MadeL B y w v) : MadeL B y w' v := by
 obtain ⟨d0, d1, d2, e, h⟩ := h;exact ⟨d0, d1, d2, e, RepLi.on (fun k hk => ⟨hk.1, Nat.lt_of_lt_of_le hk.2 hb.size⟩) (fun k hk => hb.block k hk.2) h⟩
def RowL (B : Nat) (y : Li) (w : World) (v : Value) : Prop := ∃ b d0 d1 d2, v = .slice (some ⟨b, 0, none⟩) 1 1 ∧ w.heap[b]? = some (.cells #[d0, d1, d2] 63 (0, 0)) ∧ B ≤ b ∧ RepLi (fun b => B ≤ b ∧ b < w.heap.size) w y d0 d1 d2
theorem RowL.stay {B : Nat} {y : Li} {w w' : World} {v : Value} (hb : Below w.heap.size w w') (h : RowL B y w v) : RowL B y w' v := by
 obtain ⟨b, d0, d1, d2, e, h1, h2, h3⟩ := h;exact ⟨b, d0, d1, d2, e, (hb.block b (Array.getElem?_eq_some_iff.1 h1).1).trans h1, h2, RepLi.on (fun k hk => ⟨hk.1, Nat.lt_of_lt_of_le hk.2 hb.size⟩) (fun k hk => hb.block k hk.2) h3⟩
theorem RowL.new {B : Nat} {y : Li} {w : World} {d0 d1 d2 : Value} (hB : B ≤ w.heap.size) (h : RepLi (fun b => B ≤ b ∧ b < w.heap.size) w y d0 d1 d2) : RowL B y (w.alloc (.cells #[d0, d1, d2] 63)) (.slice (some ⟨w.heap.size, 0, none⟩) 1 1) :=
 ⟨_, d0, d1, d2, rfl, alloc_new' w _, hB, RepLi.on (fun k hk => ⟨hk.1, by simp; omega⟩) (fun k hk => Below.heap_alloc _ _ _ hk.2) h⟩
theorem MadeL.of {B : Nat} {y : Li} {w w' : World} {e : Ending} (hB : B ≤ w.heap.size) (h : MadeLiF y w e w') : ∃ v, e = .returned v ∧ MadeL B y w' v ∧ Below w.heap.size w w' := by
 obtain ⟨d0, d1, d2, rfl, h, hb⟩ := h;exact ⟨_, rfl, ⟨d0, d1, d2, rfl, RepLi.on (fun k hk => ⟨by omega, hk.2⟩) (fun _ _ => rfl) h⟩, hb⟩
theorem fitAgg_size (j : Nat) : (fitAggN j).size ≤ 5 := by
 match j with
 | 0 => decide
 | 1 => decide
 | 2 => decide
 | _ + 3 => exact Nat.zero_le _
theorem fitRu_agg {r : Ru} {i : Nat} (hc : 1 < (fitArgs r.args).length ∧ pickZ r.at' 2 = 1) (hi : 1 + pickZ r.at' ((fitArgs r.args).length - 1) = (i : Int)) : fitRu r = ⟨relOf r.label, relOf r.head, (fitArgs r.args).set i (.mk 1 (varOf r.agg) nV []), fitAggN (pickZ r.at' 3).toNat, (i : Int), fitBody r.body⟩ := by
 rw [fitRu, if_pos hc, hi, Int.toNat_natCast]
theorem fitRu_plain {r : Ru} (hc : ¬ (1 < (fitArgs r.args).length ∧ pickZ r.at' 2 = 1)) : fitRu r = ⟨relOf r.label, relOf r.head, fitArgs r.args, ⟨#[]⟩, 0, fitBody r.body⟩ := by
 rw [fitRu, if_neg hc]
theorem fitBody_some {l : List Li} (h : l ≠ []) : fitBody l = (l.take 8).map fitLi := by rw [fitBody, if_neg h]
theorem fitBody_none : fitBody [] = [fitLi ⟨0, ⟨#[]⟩, []⟩] := by rw [fitBody, if_pos rfl]
theorem fitBody_len (l : List Li) : 1 ≤ (fitBody l).length ∧ (fitBody l).length ≤ 8 := by
 by_cases h : l = []
 ·subst h; rw [fitBody_none]; simp
 ·rw [fitBody_some h]
  have := List.length_pos_iff.2 h;simp; omega
theorem liZ_rep (S : Nat → Prop) (w : World) : RepLi S w ⟨0, ⟨#[]⟩, []⟩ (.int .i64 0) (.string ⟨#[]⟩) (.slice none 0 0) :=
 ⟨rfl, rfl, small64 (n := 0) (by omega), by decide, slg_nil⟩
end Go.Proofs.YtjohcnhiblfbnaaGreat
