/-
  Member, Reverse, Turned
-/
import Derived.Test.YtjmnnjikmmglpaaKD05
import Derived.Deep.RegionLaw
import Derived.BigQuiet
import Derived.Lib.SliceRun
namespace Go.Proofs.Ytjmnnjikmmglpaa
open Go.RowKit
def memZ (l : List V) (y : V) : Int := if l.any (fun z => cmpV z y == 0) = true then 1 else 0
theorem memZ_nil (y : V) : memZ [] y = 0 := rfl
theorem memZ_hit {l : List V} {y : V} {k : Nat} (hk : k < l.length) (h : cmpV l[k] y = 0) : memZ (l.drop k) y = 1 := by
 rw [List.drop_eq_getElem_cons hk, memZ, if_pos (by rw [List.any_cons, h]; rfl)]
theorem memZ_miss {l : List V} {y : V} {k : Nat} (hk : k < l.length) (h : (cmpV l[k] y == 0) = false) : memZ (l.drop k) y = memZ (l.drop (k + 1)) y := by
 rw [List.drop_eq_getElem_cons hk, memZ, memZ, List.any_cons, h, Bool.false_or]
theorem memZ_range (l : List V) (y : V) : memZ l y = 0 ∨ memZ l y = 1 := by
 unfold memZ; split <;> simp
theorem num_post {W w : World} {n : Int} (hn : I64 n) (hw : Below W.heap.size W w) : DoPost (numV n) W (.returned (.agg #[.int .i64 1, .int .i64 n, .string ⟨#[]⟩, .slice none 0 0])) ((((w.setCell ⟨W.heap.size, 0, none⟩ (.int .i64 1)).setCell ⟨W.heap.size, 1, none⟩ (.int .i64 n)).setCell ⟨W.heap.size, 2, none⟩ (.string ⟨#[]⟩)).setCell ⟨W.heap.size, 3, none⟩ (.slice none 0 0)) :=
 ⟨_, _, _, _, rfl, rep_num hn, stored4 hw _ (Nat.le_refl _) _ _ _ _⟩
set_option maxRecDepth 100000 in
set_option maxHeartbeats 2000000 in
theorem member_any (x y : V) (B : Nat) (w : World) (a : Value) (hB : B ≤ w.heap.size) (ha : RepL B w [x, y] a) :
  Calls Try.prog 83 #[a] w (DoPost (numV (memZ x.list y)) w) := by
 have hb1 : Below w.heap.size w (w.alloc (.cells #[.int .i64 0, .int .i64 0, .string ⟨#[]⟩, .slice none 0 0] 28)) := (Below.refl _ w).alloc (Nat.le_refl _) _;have HX := Lib.hid (boxed_new w (.int .i64 0) (.int .i64 0) (.string ⟨#[]⟩) (.slice none 0 0));have HB1 := Lib.hid hb1;have HS := Lib.hid (World.size_alloc w (.cells #[.int .i64 0, .int .i64 0, .string ⟨#[]⟩, .slice none 0 0] 28));obtain ⟨aa, ab, ao, ac, rfl, hac, -⟩ := id ha;have ha1 : RepL B (w.alloc (.cells #[.int .i64 0, .int .i64 0, .string ⟨#[]⟩, .slice none 0 0] 28)) [x, y] (.slice aa [x, y].length ac) := RepL.below (fun j hj => hb1.block j (by omega)) ha;obtain ⟨-, hcap, b, o, fa, fc, rfl, hSb, g0, g1, g2, g3, g⟩ := RepLG.at ha1 0 (by simp);obtain ⟨-, -, b', o', fa', fc', e', -, e0, e1, e2, e3, g'⟩ := RepLG.at ha1 1 (by simp)
 cases e'
 simp only [List.getElem_cons_zero, List.getElem_cons_succ, Nat.zero_mul, Nat.one_mul, Nat.add_zero, List.length_cons, List.length_nil, Nat.zero_add, Nat.reduceAdd] at g0 g1 g2 g3 g e0 e1 e2 e3 g' hcap hac
 have GX := Lib.hid g.lst;have GY := Lib.hid g';have E0 := Lib.hid e0; have E1 := Lib.hid e1; have E2 := Lib.hid e2; have E3 := Lib.hid e3
 have hlen : x.list.length * 56 ≤ 140737488355328 := by obtain ⟨_, _, _, _, _, _, h, _⟩ := g.lst; exact h
 have hm0 := memZ_range x.list y;have HM0 := Lib.hid hm0;clear ha ha1 g g' hb1 g0 g1 g2 hm0 e0 e1 e2 e3;have HZ : Hid (memZ x.list y = memZ (x.list.drop 0) y) := rfl;generalize x.list = l at *;go_enter Try.func83, Try.ntmps83
 go_wp2_with fail
 generalize (w.alloc (.cells #[.int .i64 0, .int .i64 0, .string ⟨#[]⟩, .slice none 0 0] 28)) = w0 at *;go_loopw [10] (fun i wr => ∃ k : Nat, k ≤ l.length ∧ i = .int .i64 k ∧ Hid (memZ l y = memZ (l.drop k) y) ∧ Below w0.heap.size w0 wr) (fun i _ => l.length - (intOf i).toNat)
 case atStart => exact ⟨0, Nat.zero_le _, rfl, HZ, Below.refl _ _⟩
 case round =>
  obtain ⟨k, hk1, rfl, hrec, hbel⟩ := hrel;clear g3;have hs := hbel.size
  by_cases hl : k < l.length
  ·obtain ⟨-, -, lb, lo, la, lc, rfl, hSl, q0, q1, q2, q3, qq⟩ := RepLG.at (GX.out.on (w' := wr) (fun _ h => h) (fun j hj => hbel.block j (by have := HS.out; omega))) k hl
   have HQ := Lib.hid qq;have HN := Lib.hid (fun h => memZ_hit (l := l) (y := y) hl h);have HN2 := Lib.hid (fun h => memZ_miss (l := l) (y := y) hl h);generalize l[k] = z at *;clear qq;go_wp2_with fail
   have Z1 := boxed_new wr (.int .i64 z.kind) (.int .i64 z.num) (.string z.text) (.slice la z.list.length lc);have b1 : Below wr.heap.size wr (wr.alloc (.cells #[.int .i64 z.kind, .int .i64 z.num, .string z.text, .slice la z.list.length lc] 28)) := (Below.refl _ wr).alloc (Nat.le_refl _) _;generalize wr.alloc (.cells #[.int .i64 z.kind, .int .i64 z.num, .string z.text, .slice la z.list.length lc] 28) = w4 at *;have B4 := Lib.hid (Below.step hbel b1);have HQ4 := Lib.hid (HQ.out.on (w' := w4) (fun _ h => h) (fun j hj => b1.block j (by have := HS.out; omega)));have GY4 := Lib.hid (GY.out.on (w' := w4) (fun _ h => h) (fun j hj => B4.out.block j (by have := HS.out; omega)));obtain ⟨p0, p1, p2, p3⟩ := Z1.cells;have e0 := (B4.out.cell (p := ⟨b, o + 4, none⟩) (by have := HS.out; simp; omega)).trans E0.out;have e1 := (B4.out.cell (p := ⟨b, o + 4 + 1, none⟩) (by have := HS.out; simp; omega)).trans E1.out;have e2 := (B4.out.cell (p := ⟨b, o + 4 + 2, none⟩) (by have := HS.out; simp; omega)).trans E2.out;have e3 := (B4.out.cell (p := ⟨b, o + 4 + 3, none⟩) (by have := HS.out; simp; omega)).trans E3.out;clear q0 q1 q2 q3 Z1 b1;go_still_tail 4, (by kernel_rfl)
   change wpList _ _ _ _ _ w4.drew;have hb5 : Below w4.heap.size w4 w4.drew := Below.drew (Below.refl _ _);have B5 := Lib.hid (Below.step B4.out hb5);have HQ5 := Lib.hid (HQ4.out.on (w := w4) (w' := w4.drew) (fun _ h => h) (fun j hj => rfl));have GY5 := Lib.hid (GY4.out.on (w := w4) (w' := w4.drew) (fun _ h => h) (fun j hj => rfl));clear p0 p1 p2 p3 e0 e1 e2 e3 hb5;generalize w4.drew = w5 at *;go_wp2_with fail
   refine (cmp_any z y B _ _ _ _ _ _ _ _ _ (by have := HS.out; have := B5.out.size; omega) HQ5.out GY5.out).mono ?_;rintro e w6 ⟨rfl, hb6⟩;have B6 := Lib.hid (Below.step B5.out hb6)
   cases hc : (cmpV z y == 0) with
   | true =>
    have hc0 : cmpV z y = 0 := by simpa using hc
    have HF : Hid (memZ l y = 1) := by show _ = _; rw [hrec.out, HN.out hc0]
    rw [hc0];clear hc hc0;go_wp2_with fail
    refine (number_any _ _).mono ?_;rintro e w7 ⟨rfl, hb7⟩;have B7 := Lib.hid (Below.step B6.out hb7);have X7 := HX.out.on B7.out;obtain ⟨r0, r1, r2, r3⟩ := X7.cells;have z0 := frozen_of_row w7 _ 0 _ _ X7;have z1 := frozen_of_row w7 _ 1 _ _ X7;have z2 := frozen_of_row w7 _ 2 _ _ X7;have z3 := frozen_of_row w7 _ 3 _ _ X7;clear X7;go_wp2_with fail
    refine bodyPost_ret (v := .agg #[.int .i64 1, .int .i64 1, .string ⟨#[]⟩, .slice none 0 0]) (by simp [results, Try.results83, go_sem, r0, r1, r2, r3]) rfl ?_;rw [HF.out];exact num_post ⟨by omega, by omega⟩ (HB1.out.trans (B7.out.mono (by have := HS.out; omega)))
   | false =>
    have HF : Hid (memZ l y = memZ (l.drop (k + 1)) y) := by show _ = _; rw [hrec.out, HN2.out hc]
    go_wp2_with fail
    go_roundw
    case rel => exact ⟨k + 1, by omega, by go_num, HF, B6.out⟩
    case measure => simp [intOf]; omega
  ·have HF : Hid (memZ l y = 0) := by show _ = _; rw [hrec.out, List.drop_of_length_le (by omega), memZ_nil]
   go_wp2_with fail
   refine (number_any _ _).mono ?_;rintro e w7 ⟨rfl, hb7⟩;have B7 := Lib.hid (Below.step hbel hb7);have X7 := HX.out.on B7.out;obtain ⟨r0, r1, r2, r3⟩ := X7.cells;have z0 := frozen_of_row w7 _ 0 _ _ X7;have z1 := frozen_of_row w7 _ 1 _ _ X7;have z2 := frozen_of_row w7 _ 2 _ _ X7;have z3 := frozen_of_row w7 _ 3 _ _ X7;clear X7;go_wp2_with fail
   refine bodyPost_ret (v := .agg #[.int .i64 1, .int .i64 0, .string ⟨#[]⟩, .slice none 0 0]) (by simp [results, Try.results83, go_sem, r0, r1, r2, r3]) rfl ?_;rw [HF.out];exact num_post ⟨by omega, by omega⟩ (HB1.out.trans (B7.out.mono (by have := HS.out; omega)))
end Go.Proofs.Ytjmnnjikmmglpaa
namespace Go.Proofs.Ytjmnnjikmmglpaa
open Go.RowKit
def revTo (l : List V) (k : Nat) : List V := (List.finRange l.length).map fun i => if i.val < k ∨ l.length ≤ i.val + k then l[l.length - 1 - i.val]'(by have := i.isLt; omega) else l[i.val]
theorem revTo_length (l : List V) (k : Nat) : (revTo l k).length = l.length := by simp [revTo]
theorem revTo_get (l : List V) (k i : Nat) (h : i < (revTo l k).length) : (revTo l k)[i] = if i < k ∨ l.length ≤ i + k then l[l.length - 1 - i]'(by rw [revTo_length] at h; omega) else l[i]'(by rw [revTo_length] at h; exact h) := by
 simp [revTo]
theorem revTo_zero (l : List V) : revTo l 0 = l := by
 refine List.ext_getElem (revTo_length l 0) (fun i h1 h2 => ?_);rw [revTo_get, if_neg (by omega)]
theorem revTo_end (l : List V) (k : Nat) (hk : l.length ≤ 2 * k + 1) : revTo l k = l.reverse := by
 refine List.ext_getElem (by rw [revTo_length, List.length_reverse]) (fun i h1 h2 => ?_);rw [revTo_get, List.getElem_reverse];rw [revTo_length] at h1
 split
 ·rfl
 ·congr 1
  omega
theorem revTo_step (l : List V) (k : Nat) (hk : k < l.length) (_hk2 : k < l.length - 1 - k) : ((revTo l k).set k (l[l.length - 1 - k]'(by omega))).set (l.length - 1 - k) l[k] = revTo l (k + 1) := by
 refine List.ext_getElem (by simp [revTo_length]) (fun i h1 h2 => ?_);have hi : i < l.length := by rw [revTo_length] at h2; exact h2
 rw [List.getElem_set, List.getElem_set, revTo_get _ (k + 1)]
 by_cases e1 : l.length - 1 - k = i
 ·subst e1
  rw [if_pos rfl, if_pos (by omega)]
  congr 1
  omega
 ·rw [if_neg e1]
  by_cases e2 : k = i
  ·subst e2
   rw [if_pos rfl, if_pos (by omega)]
  ·rw [if_neg e2, revTo_get]
   by_cases e3 : i < k ∨ l.length ≤ i + k
   ·rw [if_pos e3, if_pos (by omega)]
   ·rw [if_neg e3, if_neg (by omega)]
theorem RepRow.put {S : Nat → Prop} {w : World} {l : List V} {cur : Array Value} (h : RepRow S w l cur) {k : Nat} (hk : k < l.length) {x : V} {x0 x1 x2 x3 : Value} (hx : RepG S w x x0 x1 x2 x3) (hsz : l.length * 4 ≤ cur.size) : RepRow S w (l.set k x) (put4 cur (k * 4) x0 x1 x2 x3) := by
 intro i hi;rw [List.length_set] at hi
 by_cases e : k = i
 ·subst e
  refine ⟨x0, x1, x2, x3, ?_, ?_, ?_, ?_, by rw [List.getElem_set, if_pos rfl]; exact hx⟩ <;> simp only [put4, Array.getElem?_setIfInBounds, Array.size_setIfInBounds]
  ·rw [if_neg (by omega), if_neg (by omega), if_neg (by omega), if_pos trivial, if_pos (by omega)]
  ·rw [if_neg (by omega), if_neg (by omega), if_pos trivial, if_pos (by omega)]
  ·rw [if_neg (by omega), if_pos trivial, if_pos (by omega)]
  ·rw [if_pos trivial, if_pos (by omega)]
 ·obtain ⟨y0, y1, y2, y3, g0, g1, g2, g3, g⟩ := h i hi
  refine ⟨y0, y1, y2, y3, ?_, ?_, ?_, ?_, by rw [List.getElem_set, if_neg e]; exact g⟩ <;>
  ·simp only [put4, Array.getElem?_setIfInBounds]
   rw [if_neg (by omega), if_neg (by omega), if_neg (by omega), if_neg (by omega)]
   assumption
def RevInv (S : Nat → Prop) (l : List V) (g cap k : Nat) (w wr : World) : Prop :=
 ∃ cur, wr.heap[g]? = some (.cells cur 28 (0, 0)) ∧ cur.size = cap * 4 ∧ RepRow S wr (revTo l k) cur ∧ w.grownBy wr (some g)
def set4 (w : World) (g o : Nat) (c0 c1 c2 c3 : Value) : World := (((w.setCell ⟨g, o, none⟩ c0).setCell ⟨g, o + 1, none⟩ c1).setCell ⟨g, o + 2, none⟩ c2).setCell ⟨g, o + 3, none⟩ c3
theorem set4_other (w : World) (g o : Nat) (c0 c1 c2 c3 : Value) (b : Nat) (h : b ≠ g) : (set4 w g o c0 c1 c2 c3).heap[b]? = w.heap[b]? := by
 unfold set4;rw [Below.heap_setCell _ _ _ _ (by simpa using h), Below.heap_setCell _ _ _ _ (by simpa using h), Below.heap_setCell _ _ _ _ (by simpa using h), Below.heap_setCell _ _ _ _ (by simpa using h)]
theorem set4_same {w : World} {g : Nat} {cur : Array Value} {t : TypeId} (h : w.heap[g]? = some (.cells cur t (0, 0))) (o : Nat) (c0 c1 c2 c3 : Value) : (set4 w g o c0 c1 c2 c3).heap[g]? = some (.cells (put4 cur o c0 c1 c2 c3) t (0, 0)) :=
 heap_setCell_same _ _ _ _ _ _ (heap_setCell_same _ _ _ _ _ _ (heap_setCell_same _ _ _ _ _ _ (heap_setCell_same _ _ _ _ _ _ h)))
theorem set4_grown {w wr : World} {g : Nat} (h : w.grownBy wr (some g)) (o : Nat) (c0 c1 c2 c3 : Value) : w.grownBy (set4 wr g o c0 c1 c2 c3) (some g) := by
 refine ⟨h.os, h.tape, h.output, ?_, fun b h1 h2 => (set4_other _ _ _ _ _ _ _ _ (fun e => h2 (by rw [e]))).trans (h.block b h1 h2)⟩;have := h.size;simp [set4, World.setCell]
 exact this
theorem drew_at (w : World) (b : Nat) : w.drew.heap[b]? = w.heap[b]? := rfl
theorem grown_drew {w wr : World} {g : Option Nat} (h : w.grownBy wr g) : w.grownBy wr.drew g := ⟨h.os, h.tape, h.output, h.size, h.block⟩
theorem swap_inv {S : Nat → Prop} {l : List V} {g cap k j : Nat} {w wr : World} {cur : Array Value} {x y : V} {x0 x1 x2 x3 y0 y1 y2 y3 : Value} (hS : ∀ k, S k → k < w.heap.size ∧ k ≠ g) (hkr : k < (revTo l k).length) (hjr : j < (revTo l k).length) (hkj : k < j) (hkn : k < l.length) (hj : j = l.length - 1 - k)
  (hinv : RevInv S l g cap k w wr) (hg : wr.heap[g]? = some (.cells cur 28 (0, 0))) (hsz : cur.size = cap * 4) (hl : l.length ≤ cap) (hrow : RepRow S wr (revTo l k) cur) (hx : (revTo l k)[k] = x) (hy : (revTo l k)[j] = y) (gx : RepG S wr x x0 x1 x2 x3) (gy : RepG S wr y y0 y1 y2 y3) :
  RevInv S l g cap (k + 1) w (set4 (set4 wr g (k * 4) y0 y1 y2 y3) g (j * 4) x0 x1 x2 x3).drew := by
 obtain ⟨_, _, _, _, hgr⟩ := hinv;have hrl := revTo_length l k
 have hks : revTo l (k + 1) = ((revTo l k).set k y).set j x := by
  have h1 : y = l[l.length - 1 - k]'(by omega) := by
   rw [← hy, revTo_get, if_neg (by omega)]
   congr 1
  have h2 : x = l[k] := by rw [← hx, revTo_get, if_neg (by omega)]
  subst hj;rw [h1, h2, revTo_step l k hkn (by omega)]
 refine ⟨put4 (put4 cur (k * 4) y0 y1 y2 y3) (j * 4) x0 x1 x2 x3, (drew_at _ g).trans (set4_same (set4_same hg _ _ _ _ _) _ _ _ _ _), by rw [put4_size, put4_size]; exact hsz, ?_, grown_drew (set4_grown (set4_grown hgr _ _ _ _ _) _ _ _ _ _)⟩;rw [hks];have r1 := hrow.put hkr gy (by omega);have r2 := r1.put (k := j) (by simpa using hjr) gx (by rw [List.length_set, put4_size]; omega);exact r2.on (w' := (set4 (set4 wr g (k * 4) y0 y1 y2 y3) g (j * 4) x0 x1 x2 x3).drew) (fun _ h => h) (fun b hb => (drew_at _ b).trans <| (set4_other (set4 wr g (k * 4) y0 y1 y2 y3) g (j * 4) x0 x1 x2 x3 b (hS b hb).2).trans (set4_other wr g (k * 4) y0 y1 y2 y3 b (hS b hb).2))
set_option maxRecDepth 100000 in
set_option maxHeartbeats 2000000 in
theorem reverse_row (S : Nat → Prop) (l : List V) (g cap : Nat) (w : World) (hS : ∀ k, S k → k < w.heap.size ∧ k ≠ g) (hl : l.length ≤ cap) (hl2 : l.length ≤ 1000) (h0 : RevInv S l g cap 0 w w) :
  Calls Try.prog 93 #[.slice (some ⟨g, 0, none⟩) l.length cap] w fun e w' => e = .returned (.tuple #[]) ∧ ∃ k, l.length ≤ 2 * k + 1 ∧ RevInv S l g cap k w w' := by
 have H0 := Lib.hid h0; clear h0
 have HS := Lib.hid hS; clear hS
 go_enter Try.func93, Try.ntmps93
 go_wp2_with fail
 go_loopw [2, 3] (fun i j wr => ∃ k : Nat, k ≤ l.length ∧ i = .int .i64 k ∧ j = .int .i64 ((l.length : Int) - 1 - k) ∧ RevInv S l g cap k w wr) (fun i _ _ => l.length - (intOf i).toNat)
 case atStart => exact ⟨0, Nat.zero_le _, rfl, by simp, H0.out⟩
 case round =>
  obtain ⟨k, hk1, rfl, rfl, hinv⟩ := hrel;have HI := Lib.hid hinv
  by_cases hlt : (k : Int) < (l.length : Int) - 1 - k
  ·obtain ⟨cur, hg, hsz, hrow, -⟩ := hinv
   have hkn : k < l.length := by omega
   obtain ⟨j, hj⟩ : ∃ j : Nat, j = l.length - 1 - k := ⟨_, rfl⟩;have hjz : (l.length : Int) - 1 - k = (j : Int) := by omega
   rw [hjz] at hlt ⊢;have hj2 : j < l.length := by omega
   have hkr : k < (revTo l k).length := by rw [revTo_length]; exact hkn
   have hjr : j < (revTo l k).length := by rw [revTo_length]; exact hj2
   obtain ⟨x0, x1, x2, x3, a0, a1, a2, a3, ga⟩ := hrow k hkr;obtain ⟨y0, y1, y2, y3, b0, b1, b2, b3, gb⟩ := hrow j hjr;have HXE := Lib.hid (Eq.refl (revTo l k)[k]); have HYE := Lib.hid (Eq.refl (revTo l k)[j])
   generalize hxe : (revTo l k)[k] = x at ga;generalize hye : (revTo l k)[j] = y at gb;replace HXE := Lib.hid hxe; replace HYE := Lib.hid hye
   clear hxe hye;have p0 := cell_of_block' hg _ a0; have p1 := cell_of_block' hg _ a1; have p2 := cell_of_block' hg _ a2; have p3 := cell_of_block' hg _ a3
   have q0 := cell_of_block' hg _ b0; have q1 := cell_of_block' hg _ b1; have q2 := cell_of_block' hg _ b2; have q3 := cell_of_block' hg _ b3
   have hjl : (j : Int) < l.length := by omega
   have hkj : k < j := by omega
   have HJ := Lib.hid hj;have HG := Lib.hid hg; have HSZ := Lib.hid hsz; have HROW := Lib.hid hrow
   have HGA := Lib.hid ga; have HGB := Lib.hid gb
   obtain ⟨fa, fc, rfl, rfl, rfl, rfl⟩ := ga.form;obtain ⟨fa', fc', rfl, rfl, rfl, rfl⟩ := gb.form;have zf : ∀ i, wr.frozen? ⟨g, i, none⟩ = false := fun i => frozen_of_row wr g i _ _ hg
   clear hj hjz hg hsz hrow ga gb a0 a1 a2 a3 b0 b1 b2 b3;have n1 : k * 4 + 3 < j * 4 := by omega
   go_wp2_with fail
   have HF := Lib.hid (swap_inv HS.out hkr hjr (by omega) hkn HJ.out HI.out HG.out HSZ.out hl HROW.out HXE.out HYE.out HGA.out HGB.out);go_region
   all_goals
    clear p0 p1 p2 p3 q0 q1 q2 q3 zf HGA HGB HROW HG;go_wp2_with fail
    go_roundw
    case rel => exact ⟨k + 1, by omega, by go_num, by have := HJ.out; congr 1; omega, HF.out⟩
    case measure => simp [intOf]; omega
  ·go_wp2_with fail
   go_end0
   exact ⟨rfl, k, by omega, HI.out⟩
end Go.Proofs.Ytjmnnjikmmglpaa
namespace Go.Proofs.Ytjmnnjikmmglpaa
open Go.RowKit
def ClonePost (l : List V) (B : Nat) (w : World) (e : Ending) (w' : World) : Prop := ∃ a n c, e = .returned (.slice a n c) ∧ OwnL (fun b => b < B) w' w.heap.size l (.slice a n c) ∧ Below w.heap.size w w'
theorem own_empty (S : Nat → Prop) (w : World) : OwnL S (w.alloc (.cells #[] 28)) w.heap.size [] (.slice (some ⟨w.heap.size, 0, none⟩) 0 0) :=
 ⟨[], ⟨rfl, .inr ⟨w.heap.size, 0, #[], rfl, Nat.le_refl _, alloc_new' _ _, Nat.le_refl _, Nat.zero_le _, rfl, rfl⟩⟩, fun i hi => by simp at hi⟩
set_option maxRecDepth 100000 in
set_option maxHeartbeats 1000000 in
theorem clone_any (l : List V) (B : Nat) (w : World) (a : Value) (hB : B ≤ w.heap.size) (ha : RepL B w l a) (hl : l.length ≤ 1000) :
  Calls Try.prog 67 #[a] w (ClonePost l B w) := by
 obtain ⟨aa, ab, ao, ac, rfl, h6, h7, h8, h9, h10⟩ := id ha;have q22 : ∀ (w : World) (a : Option Addr) (n c n' c' : Nat), (binOp .eql 23 (.slice a n c) (.slice none n' c')).run Try.prog w = .ok (.bool a.isNone) w := fun w a n c n' c' => Lib.run_eql_slice_nil w _ _ a n c n' c' Try.underlying23
 rcases aa with _ | ad
 ·have hc : ac = 0 := by
   by_cases hc : 0 < ac
   ·have := h8 hc; cases this
   ·omega
  subst hc;obtain rfl : l = [] := List.length_eq_zero_iff.1 (by omega);clear ha h6 h7 h8 h9 h10;simp only [List.length_nil]
  go_enter Try.func67, Try.ntmps67
  go_wp2_with fail
  go_ret
  exact ⟨none, 0, 0, rfl, OwnL.nil _ _ _, Below.refl _ _⟩
 ·have hb1 : Below w.heap.size w (w.alloc (.cells #[] 28)) := (Below.refl _ w).alloc (Nat.le_refl _) _
  obtain ⟨v', w2, hrun, hown, hgr, hv⟩ := append_run (w.alloc (.cells #[] 28)) w.heap.size 23 (own_empty (fun b => b < B) w) (RepL.below (fun j hj => hb1.block j (by omega)) ha) (fun k hk => ⟨by simp; omega, by simp [Value.ownBlock]; omega⟩) (by simp; omega) (by simp);rw [List.nil_append] at hown;obtain ⟨ra, rc, rfl⟩ := own_slice hown;have HR := Lib.hid hrun;have HO := Lib.hid hown;have HB := Lib.hid (show Below w.heap.size w w2 from ⟨hgr.os.trans hb1.os, hgr.tape.trans hb1.tape, hgr.output.trans hb1.output, Nat.le_trans hb1.size hgr.size, fun k hk => (hgr.block k (by simp; omega) (by simp [Value.ownBlock]; omega)).trans (hb1.block k hk)⟩);clear ha h6 h7 h8 h9 h10 hrun hown hgr hv hb1;generalize l.length = len at *;go_enter Try.func67, Try.ntmps67
  go_wp2_with (at_builtin; refine Lib.wpList_append_run _ rfl _ _ _ _ rfl _ _ rfl rfl _ _ HR.out ?_)
  go_ret
  exact ⟨_, _, _, rfl, HO.out, HB.out⟩
theorem own_turned {B : Nat} {w : World} {base : Nat} {l : List V} {a : Option Addr} {n c : Nat} (h : OwnL (fun b => b < B) w base l (.slice a n c)) (_hB : B ≤ base) : n = l.length ∧ ((l = [] ∧ a = none ∧ c = 0) ∨ ∃ g, a = some ⟨g, 0, none⟩ ∧ l.length ≤ c ∧ base ≤ g ∧ g < w.heap.size ∧ RevInv (fun b => b < B) l g c 0 w w) := by
 obtain ⟨xs, ⟨hlen, hown⟩, hr⟩ := h;rcases hown with ⟨e, hn⟩ | ⟨g, cap, cur, e, hbg, hh, hnc, hcm, hcs, htk⟩
 ·cases e
  have hl : l = [] := List.length_eq_zero_iff.1 hn;subst hl;exact ⟨rfl, .inl ⟨rfl, rfl, rfl⟩⟩
 ·cases e
  refine ⟨rfl, .inr ⟨g, rfl, hnc, hbg, (Array.getElem?_eq_some_iff.1 hh).1, cur, hh, hcs, ?_, World.grownBy.refl w _⟩⟩;rw [revTo_zero];intro i hi;obtain ⟨z0, z1, z2, z3, g0, g1, g2, g3, gg⟩ := hr i hi
  have key : ∀ j v, j < l.length * 4 → xs.toArray[j]? = some v → cur[j]? = some v := by
   intro j v hj hv;rw [List.getElem?_toArray, ← htk, List.getElem?_take, if_pos hj] at hv;rw [← Array.getElem?_toList]; exact hv
  exact ⟨z0, z1, z2, z3, key _ _ (by omega) g0, key _ _ (by omega) g1, key _ _ (by omega) g2, key _ _ (by omega) g3, gg⟩
def TurnPost (l : List V) (B base : Nat) (v : Value) (w : World) (e : Ending) (w' : World) : Prop := e = .returned (.tuple #[]) ∧ RepLG (fun b => b < B ∨ (base ≤ b ∧ b < w'.heap.size)) w' l.reverse v ∧ Below base w w'
theorem turn_any (l : List V) (B base : Nat) (w : World) (a : Option Addr) (n c : Nat) (hB : B ≤ base) (_hbase : base ≤ w.heap.size) (h : OwnL (fun b => b < B) w base l (.slice a n c)) (hl : l.length ≤ 1000) :
  Calls Try.prog 93 #[.slice a n c] w (TurnPost l B base (.slice a n c) w) := by
 obtain ⟨rfl, ⟨rfl, rfl, rfl⟩ | ⟨g, rfl, hc, hbg, hg, hinv⟩⟩ := own_turned h hB
 ·clear h
  simp only [List.length_nil]
  go_enter Try.func93, Try.ntmps93
  go_wp2_with fail
  refine wp_loop_rounds 1 ?_;rw [rounds_succ];go_wp2_with fail
  go_end0
  exact ⟨rfl, rep_nil, Below.refl _ _⟩
 ·refine (reverse_row (fun b => b < B) l g c w (fun k hk => ⟨by omega, by omega⟩) hc hl hinv).mono ?_
  rintro e w' ⟨rfl, k, hk, cur, hh, hsz, hrow, hgr⟩;rw [revTo_end l k hk] at hrow;refine ⟨rfl, ?_, hgr.os, hgr.tape, hgr.output, hgr.size, fun j hj => hgr.block j (by omega) (fun e => by have := Option.some.inj e; omega)⟩;have := (hrow.on (S' := fun b => b < B ∨ (base ≤ b ∧ b < w'.heap.size)) (fun _ h => .inl h) (fun _ _ => rfl)).slice hh (.inr ⟨hbg, (Array.getElem?_eq_some_iff.1 hh).1⟩) (cap := c) (by rw [List.length_reverse]; exact hc) (by rw [List.length_reverse]; omega);rw [List.length_reverse] at this;exact this
set_option maxRecDepth 100000 in
set_option maxHeartbeats 1000000 in
theorem turned_any (x : V) (B : Nat) (w : World) (a : Value) (hB : B ≤ w.heap.size) (ha : RepL B w [x] a) (hx : x.list.length ≤ 100) :
  Calls Try.prog 88 #[a] w (DoPost (listV x.list.reverse) w) := by
 have hb1 : Below w.heap.size w (w.alloc (.cells #[.int .i64 0, .int .i64 0, .string ⟨#[]⟩, .slice none 0 0] 28)) := (Below.refl _ w).alloc (Nat.le_refl _) _;have HX := Lib.hid (boxed_new w (.int .i64 0) (.int .i64 0) (.string ⟨#[]⟩) (.slice none 0 0));have HB1 := Lib.hid hb1;have HS1 := Lib.hid (World.size_alloc w (.cells #[.int .i64 0, .int .i64 0, .string ⟨#[]⟩, .slice none 0 0] 28));obtain ⟨aa, ab, ao, ac, rfl, hac, -⟩ := id ha;obtain ⟨-, -, b, o, fa, fc, rfl, hSb, g0, g1, g2, g3, g⟩ := RepLG.at (RepL.below (w' := (w.alloc (.cells #[.int .i64 0, .int .i64 0, .string ⟨#[]⟩, .slice none 0 0] 28))) (fun j hj => hb1.block j (by omega)) ha) 0 (by simp);simp only [List.getElem_cons_zero, Nat.zero_mul, Nat.add_zero] at g0 g1 g2 g3 g
 have GX := Lib.hid g.lst;clear ha g hb1;go_enter Try.func88, Try.ntmps88
 go_wp2_with fail
 refine (clone_any x.list B _ _ (by simp; omega) GX.out (by omega)).mono ?_;rintro e w2 ⟨ca, cn, cc, rfl, hown, hb2⟩;have HB2 := Lib.hid hb2;have HO := Lib.hid hown;clear hown hb2 g0 g1 g2 g3;go_wp2_with fail
 refine (turn_any x.list B _ _ _ _ _ (by simp; omega) HB2.out.size HO.out (by omega)).mono ?_;rintro e w3 ⟨rfl, hr3, hb3⟩;have HB3 := Lib.hid (HB2.out.trans hb3);have HR3 := Lib.hid hr3;clear hr3 hb3;go_wp2_with fail
 refine (sharing_any _ _ _ _).mono ?_;rintro e w4 ⟨rfl, hb4⟩;have HB4 := Lib.hid (Below.step HB3.out hb4);have HR4 := Lib.hid (HR3.out.on (w' := w4) (fun _ h => h) (fun k hk => hb4.block k (by have := HB3.out.size; simp at this hk; omega)));have X4 := HX.out.on HB4.out;obtain ⟨r0, r1, r2, r3⟩ := X4.cells;have z0 := frozen_of_row w4 _ 0 _ _ X4;have z1 := frozen_of_row w4 _ 1 _ _ X4;have z2 := frozen_of_row w4 _ 2 _ _ X4;have z3 := frozen_of_row w4 _ 3 _ _ X4;have hs4 := hb4.size;have hs3 := HB3.out.size;clear X4 hb4;go_wp2_with fail
 refine bodyPost_ret (by simp [results, Try.results88, go_sem, r0, r1, r2, r3]; rfl) rfl ?_;exact ⟨_, _, _, _, rfl, RepG.past4 (rep_list HR4.out) w.heap.size (by simp; omega) (fun b h => by simp at h hs3; omega) _ _ _ _, stored4 (Below.trans HB1.out (HB4.out.mono (by simp))) w.heap.size (Nat.le_refl _) _ _ _ _⟩
end Go.Proofs.Ytjmnnjikmmglpaa
