/-
  Reverse, Turned, Find
-/
import Derived.Test.YtbkligcfllakeaaKE04
import Derived.Test.YtbkligcfllakeaaKE01
import Derived.Deep.RegionLaw
import Derived.BigQuiet
import Derived.Lib.SliceRun
import Derived.Laws.EntriesVeiled
namespace Go.Proofs.Ytbkligcfllakeaa
open Go.RowKit
def revTo (l : List V) (k : Nat) : List V := (List.finRange l.length).map fun i => if i.val < k ∨ l.length ≤ i.val + k then l[l.length - 1 - i.val]'(by have := i.isLt; omega) else l[i.val]
theorem revTo_length (l : List V) (k : Nat) : (revTo l k).length = l.length := by simp [revTo]
theorem revTo_get (l : List V) (k i : Nat) (h : i < (revTo l k).length) : (revTo l k)[i] = if i < k ∨ l.length ≤ i + k then l[l.length - 1 - i]'(by rw [revTo_length] at h; omega) else l[i]'(by rw [revTo_length] at h; exact h) := by
 simp [revTo]
theorem revTo_zero (l : List V) : revTo l 0 = l := by
 refine List.ext_getElem (revTo_length l 0) (fun i h1 h2 => ?_);rw [revTo_get, if_neg (by omega)]
theorem revTo_end (l : List V) (k : Nat) (hk : l.length ≤ 2 * k + 1) : revTo l k = l.reverse := by
 refine List.ext_getElem (by rw [revTo_length, List.length_reverse]) (fun i h1 h2 => ?_);rw [revTo_get, List.getElem_reverse];rw [revTo_length] at h1
 split
 ·rfl
 ·congr 1
  omega
theorem revTo_step (l : List V) (k : Nat) (hk : k < l.length) (_hk2 : k < l.length - 1 - k) : ((revTo l k).set k (l[l.length - 1 - k]'(by omega))).set (l.length - 1 - k) l[k] = revTo l (k + 1) := by
 refine List.ext_getElem (by simp [revTo_length]) (fun i h1 h2 => ?_);have hi : i < l.length := by rw [revTo_length] at h2; exact h2
 rw [List.getElem_set, List.getElem_set, revTo_get _ (k + 1)]
 by_cases e1 : l.length - 1 - k = i
 ·subst e1
  rw [if_pos rfl, if_pos (by omega)]
  congr 1
  omega
 ·rw [if_neg e1]
  by_cases e2 : k = i
  ·subst e2
   rw [if_pos rfl, if_pos (by omega)]
  ·rw [if_neg e2, revTo_get]
   by_cases e3 : i < k ∨ l.length ≤ i + k
   ·rw [if_pos e3, if_pos (by omega)]
   ·rw [if_neg e3, if_neg (by omega)]
theorem RepRow.put {S : Nat → Prop} {w : World} {l : List V} {cur : Array Value} (h : RepRow S w l cur) {k : Nat} (hk : k < l.length) {x : V} {x0 x1 x2 x3 : Value} (hx : RepG S w x x0 x1 x2 x3) (hsz : l.length * 4 ≤ cur.size) : RepRow S w (l.set k x) (put4 cur (k * 4) x0 x1 x2 x3) := by
 intro i hi;rw [List.length_set] at hi
 by_cases e : k = i
 ·subst e
  refine ⟨x0, x1, x2, x3, ?_, ?_, ?_, ?_, by rw [List.getElem_set, if_pos rfl]; exact hx⟩ <;> simp only [put4, Array.getElem?_setIfInBounds, Array.size_setIfInBounds]
  ·rw [if_neg (by omega), if_neg (by omega), if_neg (by omega), if_pos trivial, if_pos (by omega)]
  ·rw [if_neg (by omega), if_neg (by omega), if_pos trivial, if_pos (by omega)]
  ·rw [if_neg (by omega), if_pos trivial, if_pos (by omega)]
  ·rw [if_pos trivial, if_pos (by omega)]
 ·obtain ⟨y0, y1, y2, y3, g0, g1, g2, g3, g⟩ := h i hi
  refine ⟨y0, y1, y2, y3, ?_, ?_, ?_, ?_, by rw [List.getElem_set, if_neg e]; exact g⟩ <;>
  ·simp only [put4, Array.getElem?_setIfInBounds]
   rw [if_neg (by omega), if_neg (by omega), if_neg (by omega), if_neg (by omega)]
   assumption
def RevInv (S : Nat → Prop) (l : List V) (g cap k : Nat) (w wr : World) : Prop :=
 ∃ cur, wr.heap[g]? = some (.cells cur 27 (0, 0)) ∧ cur.size = cap * 4 ∧ RepRow S wr (revTo l k) cur ∧ w.grownBy wr (some g)
def set4 (w : World) (g o : Nat) (c0 c1 c2 c3 : Value) : World := (((w.setCell ⟨g, o, none⟩ c0).setCell ⟨g, o + 1, none⟩ c1).setCell ⟨g, o + 2, none⟩ c2).setCell ⟨g, o + 3, none⟩ c3
theorem set4_other (w : World) (g o : Nat) (c0 c1 c2 c3 : Value) (b : Nat) (h : b ≠ g) : (set4 w g o c0 c1 c2 c3).heap[b]? = w.heap[b]? := by
 unfold set4;rw [Below.heap_setCell _ _ _ _ (by simpa using h), Below.heap_setCell _ _ _ _ (by simpa using h), Below.heap_setCell _ _ _ _ (by simpa using h), Below.heap_setCell _ _ _ _ (by simpa using h)]
theorem set4_same {w : World} {g : Nat} {cur : Array Value} {t : TypeId} (h : w.heap[g]? = some (.cells cur t (0, 0))) (o : Nat) (c0 c1 c2 c3 : Value) : (set4 w g o c0 c1 c2 c3).heap[g]? = some (.cells (put4 cur o c0 c1 c2 c3) t (0, 0)) :=
 heap_setCell_same _ _ _ _ _ _ (heap_setCell_same _ _ _ _ _ _ (heap_setCell_same _ _ _ _ _ _ (heap_setCell_same _ _ _ _ _ _ h)))
theorem set4_grown {w wr : World} {g : Nat} (h : w.grownBy wr (some g)) (o : Nat) (c0 c1 c2 c3 : Value) : w.grownBy (set4 wr g o c0 c1 c2 c3) (some g) := by
 refine ⟨h.os, h.tape, h.output, ?_, fun b h1 h2 => (set4_other _ _ _ _ _ _ _ _ (fun e => h2 (by rw [e]))).trans (h.block b h1 h2)⟩;have := h.size;simp [set4, World.setCell]
 exact this
theorem drew_at (w : World) (b : Nat) : w.drew.heap[b]? = w.heap[b]? := rfl
theorem grown_drew {w wr : World} {g : Option Nat} (h : w.grownBy wr g) : w.grownBy wr.drew g := ⟨h.os, h.tape, h.output, h.size, h.block⟩
theorem swap_inv {S : Nat → Prop} {l : List V} {g cap k j : Nat} {w wr : World} {cur : Array Value} {x y : V} {x0 x1 x2 x3 y0 y1 y2 y3 : Value} (hS : ∀ k, S k → k < w.heap.size ∧ k ≠ g) (hkr : k < (revTo l k).length) (hjr : j < (revTo l k).length) (hkj : k < j) (hkn : k < l.length) (hj : j = l.length - 1 - k)
  (hinv : RevInv S l g cap k w wr) (hg : wr.heap[g]? = some (.cells cur 27 (0, 0))) (hsz : cur.size = cap * 4) (hl : l.length ≤ cap) (hrow : RepRow S wr (revTo l k) cur) (hx : (revTo l k)[k] = x) (hy : (revTo l k)[j] = y) (gx : RepG S wr x x0 x1 x2 x3) (gy : RepG S wr y y0 y1 y2 y3) :
  RevInv S l g cap (k + 1) w (set4 (set4 wr g (k * 4) y0 y1 y2 y3) g (j * 4) x0 x1 x2 x3).drew := by
 obtain ⟨_, _, _, _, hgr⟩ := hinv;have hrl := revTo_length l k
 have hks : revTo l (k + 1) = ((revTo l k).set k y).set j x := by
  have h1 : y = l[l.length - 1 - k]'(by omega) := by
   rw [← hy, revTo_get, if_neg (by omega)]
   congr 1
  have h2 : x = l[k] := by rw [← hx, revTo_get, if_neg (by omega)]
  subst hj;rw [h1, h2, revTo_step l k hkn (by omega)]
 refine ⟨put4 (put4 cur (k * 4) y0 y1 y2 y3) (j * 4) x0 x1 x2 x3, (drew_at _ g).trans (set4_same (set4_same hg _ _ _ _ _) _ _ _ _ _), by rw [put4_size, put4_size]; exact hsz, ?_, grown_drew (set4_grown (set4_grown hgr _ _ _ _ _) _ _ _ _ _)⟩;rw [hks];have r1 := hrow.put hkr gy (by omega);have r2 := r1.put (k := j) (by simpa using hjr) gx (by rw [List.length_set, put4_size]; omega);exact r2.on (w' := (set4 (set4 wr g (k * 4) y0 y1 y2 y3) g (j * 4) x0 x1 x2 x3).drew) (fun _ h => h) (fun b hb => (drew_at _ b).trans <| (set4_other (set4 wr g (k * 4) y0 y1 y2 y3) g (j * 4) x0 x1 x2 x3 b (hS b hb).2).trans (set4_other wr g (k * 4) y0 y1 y2 y3 b (hS b hb).2))
set_option maxRecDepth 100000 in
set_option maxHeartbeats 2000000 in
theorem reverse_row (S : Nat → Prop) (l : List V) (g cap : Nat) (w : World) (hS : ∀ k, S k → k < w.heap.size ∧ k ≠ g) (hl : l.length ≤ cap) (hl2 : l.length ≤ 1000) (h0 : RevInv S l g cap 0 w w) :
  Calls Try.prog 125 #[.slice (some ⟨g, 0, none⟩) l.length cap] w fun e w' => e = .returned (.tuple #[]) ∧ ∃ k, l.length ≤ 2 * k + 1 ∧ RevInv S l g cap k w w' := by
 have H0 := Lib.hid h0; clear h0
 have HS := Lib.hid hS; clear hS
 go_enter Try.func125, Try.ntmps125
 go_wp2_with fail
 go_loopw [2, 3] (fun i j wr => ∃ k : Nat, k ≤ l.length ∧ i = .int .i64 k ∧ j = .int .i64 ((l.length : Int) - 1 - k) ∧ RevInv S l g cap k w wr) (fun i _ _ => l.length - (intOf i).toNat)
 case atStart => exact ⟨0, Nat.zero_le _, rfl, by simp, H0.out⟩
 case round =>
  obtain ⟨k, hk1, rfl, rfl, hinv⟩ := hrel;have HI := Lib.hid hinv
  by_cases hlt : (k : Int) < (l.length : Int) - 1 - k
  ·obtain ⟨cur, hg, hsz, hrow, -⟩ := hinv
   have hkn : k < l.length := by omega
   obtain ⟨j, hj⟩ : ∃ j : Nat, j = l.length - 1 - k := ⟨_, rfl⟩;have hjz : (l.length : Int) - 1 - k = (j : Int) := by omega
   rw [hjz] at hlt ⊢;have hj2 : j < l.length := by omega
   have hkr : k < (revTo l k).length := by rw [revTo_length]; exact hkn
   have hjr : j < (revTo l k).length := by rw [revTo_length]; exact hj2
   obtain ⟨x0, x1, x2, x3, a0, a1, a2, a3, ga⟩ := hrow k hkr;obtain ⟨y0, y1, y2, y3, b0, b1, b2, b3, gb⟩ := hrow j hjr;have HXE := Lib.hid (Eq.refl (revTo l k)[k]); have HYE := Lib.hid (Eq.refl (revTo l k)[j])
   generalize hxe : (revTo l k)[k] = x at ga;generalize hye : (revTo l k)[j] = y at gb;replace HXE := Lib.hid hxe; replace HYE := Lib.hid hye
   clear hxe hye;have p0 := cell_of_block' hg _ a0; have p1 := cell_of_block' hg _ a1; have p2 := cell_of_block' hg _ a2; have p3 := cell_of_block' hg _ a3
   have q0 := cell_of_block' hg _ b0; have q1 := cell_of_block' hg _ b1; have q2 := cell_of_block' hg _ b2; have q3 := cell_of_block' hg _ b3
   have hjl : (j : Int) < l.length := by omega
   have hkj : k < j := by omega
   have HJ := Lib.hid hj;have HG := Lib.hid hg; have HSZ := Lib.hid hsz; have HROW := Lib.hid hrow
   have HGA := Lib.hid ga; have HGB := Lib.hid gb
   obtain ⟨fa, fc, rfl, rfl, rfl, rfl⟩ := ga.form;obtain ⟨fa', fc', rfl, rfl, rfl, rfl⟩ := gb.form;have zf : ∀ i, wr.frozen? ⟨g, i, none⟩ = false := fun i => frozen_of_row wr g i _ _ hg
   clear hj hjz hg hsz hrow ga gb a0 a1 a2 a3 b0 b1 b2 b3;have n1 : k * 4 + 3 < j * 4 := by omega
   go_wp2_with fail
   have HF := Lib.hid (swap_inv HS.out hkr hjr (by omega) hkn HJ.out HI.out HG.out HSZ.out hl HROW.out HXE.out HYE.out HGA.out HGB.out);go_region
   all_goals
    clear p0 p1 p2 p3 q0 q1 q2 q3 zf HGA HGB HROW HG;go_wp2_with fail
    go_roundw
    case rel => exact ⟨k + 1, by omega, by go_num, by have := HJ.out; congr 1; omega, HF.out⟩
    case measure => simp [intOf]; omega
  ·go_wp2_with fail
   go_end0
   exact ⟨rfl, k, by omega, HI.out⟩
end Go.Proofs.Ytbkligcfllakeaa
namespace Go.Proofs.Ytbkligcfllakeaa
open Go.RowKit
def ClonePost (l : List V) (B : Nat) (w : World) (e : Ending) (w' : World) : Prop := ∃ a n c, e = .returned (.slice a n c) ∧ OwnL (fun b => b < B) w' w.heap.size l (.slice a n c) ∧ Below w.heap.size w w'
theorem own_empty (S : Nat → Prop) (w : World) : OwnL S (w.alloc (.cells #[] 27)) w.heap.size [] (.slice (some ⟨w.heap.size, 0, none⟩) 0 0) :=
 ⟨[], ⟨rfl, .inr ⟨w.heap.size, 0, #[], rfl, Nat.le_refl _, alloc_new' _ _, Nat.le_refl _, Nat.zero_le _, rfl, rfl⟩⟩, fun i hi => by simp at hi⟩
set_option maxRecDepth 100000 in
set_option maxHeartbeats 1000000 in
theorem clone_any (l : List V) (B : Nat) (w : World) (a : Value) (hB : B ≤ w.heap.size) (ha : RepL B w l a) (hl : l.length ≤ 1000) :
  Calls Try.prog 91 #[a] w (ClonePost l B w) := by
 obtain ⟨aa, ab, ao, ac, rfl, h6, h7, h8, h9, h10⟩ := id ha;have q22 : ∀ (w : World) (a : Option Addr) (n c n' c' : Nat), (binOp .eql 22 (.slice a n c) (.slice none n' c')).run Try.prog w = .ok (.bool a.isNone) w := fun w a n c n' c' => Lib.run_eql_slice_nil w _ _ a n c n' c' Try.underlying22
 rcases aa with _ | ad
 ·have hc : ac = 0 := by
   by_cases hc : 0 < ac
   ·have := h8 hc; cases this
   ·omega
  subst hc;obtain rfl : l = [] := List.length_eq_zero_iff.1 (by omega);clear ha h6 h7 h8 h9 h10;simp only [List.length_nil]
  go_enter Try.func91, Try.ntmps91
  go_wp2_with fail
  go_ret
  exact ⟨none, 0, 0, rfl, OwnL.nil _ _ _, Below.refl _ _⟩
 ·have hb1 : Below w.heap.size w (w.alloc (.cells #[] 27)) := (Below.refl _ w).alloc (Nat.le_refl _) _
  obtain ⟨v', w2, hrun, hown, hgr, hv⟩ := append_run (w.alloc (.cells #[] 27)) w.heap.size 22 (own_empty (fun b => b < B) w) (RepL.below (fun j hj => hb1.block j (by omega)) ha) (fun k hk => ⟨by simp; omega, by simp [Value.ownBlock]; omega⟩) (by simp; omega) (by simp);rw [List.nil_append] at hown;obtain ⟨ra, rc, rfl⟩ := own_slice hown;have HR := Lib.hid hrun;have HO := Lib.hid hown;have HB := Lib.hid (show Below w.heap.size w w2 from ⟨hgr.os.trans hb1.os, hgr.tape.trans hb1.tape, hgr.output.trans hb1.output, Nat.le_trans hb1.size hgr.size, fun k hk => (hgr.block k (by simp; omega) (by simp [Value.ownBlock]; omega)).trans (hb1.block k hk)⟩);clear ha h6 h7 h8 h9 h10 hrun hown hgr hv hb1;generalize l.length = len at *;go_enter Try.func91, Try.ntmps91
  go_wp2_with (at_builtin; refine Lib.wpList_append_run _ rfl _ _ _ _ rfl _ _ rfl rfl _ _ HR.out ?_)
  go_ret
  exact ⟨_, _, _, rfl, HO.out, HB.out⟩
theorem own_turned {B : Nat} {w : World} {base : Nat} {l : List V} {a : Option Addr} {n c : Nat} (h : OwnL (fun b => b < B) w base l (.slice a n c)) (_hB : B ≤ base) : n = l.length ∧ ((l = [] ∧ a = none ∧ c = 0) ∨ ∃ g, a = some ⟨g, 0, none⟩ ∧ l.length ≤ c ∧ base ≤ g ∧ g < w.heap.size ∧ RevInv (fun b => b < B) l g c 0 w w) := by
 obtain ⟨xs, ⟨hlen, hown⟩, hr⟩ := h;rcases hown with ⟨e, hn⟩ | ⟨g, cap, cur, e, hbg, hh, hnc, hcm, hcs, htk⟩
 ·cases e
  have hl : l = [] := List.length_eq_zero_iff.1 hn;subst hl;exact ⟨rfl, .inl ⟨rfl, rfl, rfl⟩⟩
 ·cases e
  refine ⟨rfl, .inr ⟨g, rfl, hnc, hbg, (Array.getElem?_eq_some_iff.1 hh).1, cur, hh, hcs, ?_, World.grownBy.refl w _⟩⟩;rw [revTo_zero];intro i hi;obtain ⟨z0, z1, z2, z3, g0, g1, g2, g3, gg⟩ := hr i hi
  have key : ∀ j v, j < l.length * 4 → xs.toArray[j]? = some v → cur[j]? = some v := by
   intro j v hj hv;rw [List.getElem?_toArray, ← htk, List.getElem?_take, if_pos hj] at hv;rw [← Array.getElem?_toList]; exact hv
  exact ⟨z0, z1, z2, z3, key _ _ (by omega) g0, key _ _ (by omega) g1, key _ _ (by omega) g2, key _ _ (by omega) g3, gg⟩
def TurnPost (l : List V) (B base : Nat) (v : Value) (w : World) (e : Ending) (w' : World) : Prop := e = .returned (.tuple #[]) ∧ RepLG (fun b => b < B ∨ (base ≤ b ∧ b < w'.heap.size)) w' l.reverse v ∧ Below base w w'
theorem turn_any (l : List V) (B base : Nat) (w : World) (a : Option Addr) (n c : Nat) (hB : B ≤ base) (_hbase : base ≤ w.heap.size) (h : OwnL (fun b => b < B) w base l (.slice a n c)) (hl : l.length ≤ 1000) :
  Calls Try.prog 125 #[.slice a n c] w (TurnPost l B base (.slice a n c) w) := by
 obtain ⟨rfl, ⟨rfl, rfl, rfl⟩ | ⟨g, rfl, hc, hbg, hg, hinv⟩⟩ := own_turned h hB
 ·clear h
  simp only [List.length_nil]
  go_enter Try.func125, Try.ntmps125
  go_wp2_with fail
  refine wp_loop_rounds 1 ?_;rw [rounds_succ];go_wp2_with fail
  go_end0
  exact ⟨rfl, rep_nil, Below.refl _ _⟩
 ·refine (reverse_row (fun b => b < B) l g c w (fun k hk => ⟨by omega, by omega⟩) hc hl hinv).mono ?_
  rintro e w' ⟨rfl, k, hk, cur, hh, hsz, hrow, hgr⟩;rw [revTo_end l k hk] at hrow;refine ⟨rfl, ?_, hgr.os, hgr.tape, hgr.output, hgr.size, fun j hj => hgr.block j (by omega) (fun e => by have := Option.some.inj e; omega)⟩;have := (hrow.on (S' := fun b => b < B ∨ (base ≤ b ∧ b < w'.heap.size)) (fun _ h => .inl h) (fun _ _ => rfl)).slice hh (.inr ⟨hbg, (Array.getElem?_eq_some_iff.1 hh).1⟩) (cap := c) (by rw [List.length_reverse]; exact hc) (by rw [List.length_reverse]; omega);rw [List.length_reverse] at this;exact this
set_option maxRecDepth 100000 in
set_option maxHeartbeats 1000000 in
theorem turned_any (x : V) (B : Nat) (w : World) (a : Value) (hB : B ≤ w.heap.size) (ha : RepL B w [x] a) (hx : x.list.length ≤ 100) :
  Calls Try.prog 120 #[a] w (DoPost (listV x.list.reverse) w) := by
 have hb1 : Below w.heap.size w (w.alloc (.cells #[.int .i64 0, .int .i64 0, .string ⟨#[]⟩, .slice none 0 0] 27)) := (Below.refl _ w).alloc (Nat.le_refl _) _;have HX := Lib.hid (boxed_new w (.int .i64 0) (.int .i64 0) (.string ⟨#[]⟩) (.slice none 0 0));have HB1 := Lib.hid hb1;have HS1 := Lib.hid (World.size_alloc w (.cells #[.int .i64 0, .int .i64 0, .string ⟨#[]⟩, .slice none 0 0] 27));obtain ⟨aa, ab, ao, ac, rfl, hac, -⟩ := id ha;obtain ⟨-, -, b, o, fa, fc, rfl, hSb, g0, g1, g2, g3, g⟩ := RepLG.at (RepL.below (w' := (w.alloc (.cells #[.int .i64 0, .int .i64 0, .string ⟨#[]⟩, .slice none 0 0] 27))) (fun j hj => hb1.block j (by omega)) ha) 0 (by simp);simp only [List.getElem_cons_zero, Nat.zero_mul, Nat.add_zero] at g0 g1 g2 g3 g
 have GX := Lib.hid g.lst;clear ha g hb1;go_enter Try.func120, Try.ntmps120
 go_wp2_with fail
 refine (clone_any x.list B _ _ (by simp; omega) GX.out (by omega)).mono ?_;rintro e w2 ⟨ca, cn, cc, rfl, hown, hb2⟩;have HB2 := Lib.hid hb2;have HO := Lib.hid hown;clear hown hb2 g0 g1 g2 g3;go_wp2_with fail
 refine (turn_any x.list B _ _ _ _ _ (by simp; omega) HB2.out.size HO.out (by omega)).mono ?_;rintro e w3 ⟨rfl, hr3, hb3⟩;have HB3 := Lib.hid (HB2.out.trans hb3);have HR3 := Lib.hid hr3;clear hr3 hb3;go_wp2_with fail
 refine (sharing_any _ _ _ _).mono ?_;rintro e w4 ⟨rfl, hb4⟩;have HB4 := Lib.hid (Below.step HB3.out hb4);have HR4 := Lib.hid (HR3.out.on (w' := w4) (fun _ h => h) (fun k hk => hb4.block k (by have := HB3.out.size; simp at this hk; omega)));have X4 := HX.out.on HB4.out;obtain ⟨r0, r1, r2, r3⟩ := X4.cells;have z0 := frozen_of_row w4 _ 0 _ _ X4;have z1 := frozen_of_row w4 _ 1 _ _ X4;have z2 := frozen_of_row w4 _ 2 _ _ X4;have z3 := frozen_of_row w4 _ 3 _ _ X4;have hs4 := hb4.size;have hs3 := HB3.out.size;clear X4 hb4;go_wp2_with fail
 refine bodyPost_ret (by simp [results, Try.results120, go_sem, r0, r1, r2, r3]; rfl) rfl ?_;exact ⟨_, _, _, _, rfl, RepG.past4 (rep_list HR4.out) w.heap.size (by simp; omega) (fun b h => by simp at h hs3; omega) _ _ _ _, stored4 (Below.trans HB1.out (HB4.out.mono (by simp))) w.heap.size (Nat.le_refl _) _ _ _ _⟩
end Go.Proofs.Ytbkligcfllakeaa
namespace Go.Proofs.Ytbkligcfllakeaa
open Go.RowKit
def fnOf (s : ByteArray) : Nat :=
 if (s.toList == [102, 95, 99, 111, 110, 115]) = true then 0
 else if (s.toList == [102, 95, 97, 112, 112, 101, 110, 100]) = true then 1
 else if (s.toList == [102, 95, 99, 111, 110, 99, 97, 116]) = true then 2
 else if (s.toList == [102, 95, 109, 101, 109, 98, 101, 114]) = true then 3
 else if (s.toList == [102, 95, 115, 105, 122, 101]) = true then 4
 else if (s.toList == [102, 95, 102, 105, 114, 115, 116]) = true then 5
 else if (s.toList == [102, 95, 108, 97, 115, 116]) = true then 6
 else if (s.toList == [102, 95, 114, 101, 115, 116]) = true then 7
 else if (s.toList == [102, 95, 114, 101, 118, 101, 114, 115, 101]) = true then 8
 else 9
def fnArity : Nat → Int
 | 0 => 2
 | 1 => 2
 | 2 => 2
 | 3 => 2
 | 4 => 1
 | 5 => 1
 | 6 => 1
 | 7 => 1
 | 8 => 1
 | _ => -1
def fnList : Nat → Nat → Bool
 | 0, 0 => false | 0, 1 => true
 | 1, 0 => true | 1, 1 => false
 | 2, 0 => true | 2, 1 => true
 | 3, 0 => true | 3, 1 => false
 | 4, 0 => true | 4, 1 => false
 | 5, 0 => true | 5, 1 => false
 | 6, 0 => true | 6, 1 => false
 | 7, 0 => true | 7, 1 => false
 | 8, 0 => true | 8, 1 => false
 | _, _ => false
def fnDo : Nat → Value
 | 0 => .func (.func 112) #[] #[]
 | 1 => .func (.func 113) #[] #[]
 | 2 => .func (.func 114) #[] #[]
 | 3 => .func (.func 115) #[] #[]
 | 4 => .func (.func 116) #[] #[]
 | 5 => .func (.func 117) #[] #[]
 | 6 => .func (.func 118) #[] #[]
 | 7 => .func (.func 119) #[] #[]
 | 8 => .func (.func 120) #[] #[]
 | _ => .nilFunc
def FindPost (k : Nat) (w : World) (e : Ending) (w' : World) : Prop := e = .returned (.agg #[.int .i64 (fnArity k), .bool (fnList k 0), .bool (fnList k 1), fnDo k]) ∧ Below w.heap.size w w'
set_option maxRecDepth 100000 in
set_option maxHeartbeats 1000000 in
theorem find_0 (s : ByteArray) (w : World) (h0 : (s.toList == [102, 95, 99, 111, 110, 115]) = true) : Calls Try.prog 106 #[.string s] w (FindPost 0 w) := by
 go_enter Try.func106, Try.ntmps106
 go_wp2_with fail
 exact bodyPost_ret (v := .agg #[.int .i64 2, .bool false, .bool true, .func (.func 112) #[] #[]]) (by simp [results, Try.results106, go_sem]) rfl ⟨rfl, (Below.refl _ _).alloc (Nat.le_refl _) _⟩
set_option maxRecDepth 100000 in
set_option maxHeartbeats 1000000 in
theorem find_1 (s : ByteArray) (w : World) (h0 : (s.toList == [102, 95, 99, 111, 110, 115]) = false) (h1 : (s.toList == [102, 95, 97, 112, 112, 101, 110, 100]) = true) : Calls Try.prog 106 #[.string s] w (FindPost 1 w) := by
 go_enter Try.func106, Try.ntmps106
 go_wp2_with fail
 exact bodyPost_ret (v := .agg #[.int .i64 2, .bool true, .bool false, .func (.func 113) #[] #[]]) (by simp [results, Try.results106, go_sem]) rfl ⟨rfl, (Below.refl _ _).alloc (Nat.le_refl _) _⟩
set_option maxRecDepth 100000 in
set_option maxHeartbeats 1000000 in
theorem find_2 (s : ByteArray) (w : World) (h0 : (s.toList == [102, 95, 99, 111, 110, 115]) = false) (h1 : (s.toList == [102, 95, 97, 112, 112, 101, 110, 100]) = false) (h2 : (s.toList == [102, 95, 99, 111, 110, 99, 97, 116]) = true) : Calls Try.prog 106 #[.string s] w (FindPost 2 w) := by
 go_enter Try.func106, Try.ntmps106
 go_wp2_with fail
 exact bodyPost_ret (v := .agg #[.int .i64 2, .bool true, .bool true, .func (.func 114) #[] #[]]) (by simp [results, Try.results106, go_sem]) rfl ⟨rfl, (Below.refl _ _).alloc (Nat.le_refl _) _⟩
set_option maxRecDepth 100000 in
set_option maxHeartbeats 1000000 in
theorem find_3 (s : ByteArray) (w : World) (h0 : (s.toList == [102, 95, 99, 111, 110, 115]) = false) (h1 : (s.toList == [102, 95, 97, 112, 112, 101, 110, 100]) = false) (h2 : (s.toList == [102, 95, 99, 111, 110, 99, 97, 116]) = false) (h3 : (s.toList == [102, 95, 109, 101, 109, 98, 101, 114]) = true) : Calls Try.prog 106 #[.string s] w (FindPost 3 w) := by
 go_enter Try.func106, Try.ntmps106
 go_wp2_with fail
 exact bodyPost_ret (v := .agg #[.int .i64 2, .bool true, .bool false, .func (.func 115) #[] #[]]) (by simp [results, Try.results106, go_sem]) rfl ⟨rfl, (Below.refl _ _).alloc (Nat.le_refl _) _⟩
set_option maxRecDepth 100000 in
set_option maxHeartbeats 1000000 in
theorem find_4 (s : ByteArray) (w : World) (h0 : (s.toList == [102, 95, 99, 111, 110, 115]) = false) (h1 : (s.toList == [102, 95, 97, 112, 112, 101, 110, 100]) = false) (h2 : (s.toList == [102, 95, 99, 111, 110, 99, 97, 116]) = false) (h3 : (s.toList == [102, 95, 109, 101, 109, 98, 101, 114]) = false) (h4 : (s.toList == [102, 95, 115, 105, 122, 101]) = true) : Calls Try.prog 106 #[.string s] w (FindPost 4 w) := by
 go_enter Try.func106, Try.ntmps106
 go_wp2_with fail
 exact bodyPost_ret (v := .agg #[.int .i64 1, .bool true, .bool false, .func (.func 116) #[] #[]]) (by simp [results, Try.results106, go_sem]) rfl ⟨rfl, (Below.refl _ _).alloc (Nat.le_refl _) _⟩
set_option maxRecDepth 100000 in
set_option maxHeartbeats 1000000 in
theorem find_5 (s : ByteArray) (w : World) (h0 : (s.toList == [102, 95, 99, 111, 110, 115]) = false) (h1 : (s.toList == [102, 95, 97, 112, 112, 101, 110, 100]) = false) (h2 : (s.toList == [102, 95, 99, 111, 110, 99, 97, 116]) = false) (h3 : (s.toList == [102, 95, 109, 101, 109, 98, 101, 114]) = false) (h4 : (s.toList == [102, 95, 115, 105, 122, 101]) = false) (h5 : (s.toList == [102, 95, 102, 105, 114, 115, 116]) = true) : Calls Try.prog 106 #[.string s] w (FindPost 5 w) := by
 go_enter Try.func106, Try.ntmps106
 go_wp2_with fail
 exact bodyPost_ret (v := .agg #[.int .i64 1, .bool true, .bool false, .func (.func 117) #[] #[]]) (by simp [results, Try.results106, go_sem]) rfl ⟨rfl, (Below.refl _ _).alloc (Nat.le_refl _) _⟩
set_option maxRecDepth 100000 in
set_option maxHeartbeats 1000000 in
theorem find_6 (s : ByteArray) (w : World) (h0 : (s.toList == [102, 95, 99, 111, 110, 115]) = false) (h1 : (s.toList == [102, 95, 97, 112, 112, 101, 110, 100]) = false) (h2 : (s.toList == [102, 95, 99, 111, 110, 99, 97, 116]) = false) (h3 : (s.toList == [102, 95, 109, 101, 109, 98, 101, 114]) = false) (h4 : (s.toList == [102, 95, 115, 105, 122, 101]) = false) (h5 : (s.toList == [102, 95, 102, 105, 114, 115, 116]) = false) (h6 : (s.toList == [102, 95, 108, 97, 115, 116]) = true) : Calls Try.prog 106 #[.string s] w (FindPost 6 w) := by
 go_enter Try.func106, Try.ntmps106
 go_wp2_with fail
 exact bodyPost_ret (v := .agg #[.int .i64 1, .bool true, .bool false, .func (.func 118) #[] #[]]) (by simp [results, Try.results106, go_sem]) rfl ⟨rfl, (Below.refl _ _).alloc (Nat.le_refl _) _⟩
set_option maxRecDepth 100000 in
set_option maxHeartbeats 1000000 in
theorem find_7 (s : ByteArray) (w : World) (h0 : (s.toList == [102, 95, 99, 111, 110, 115]) = false) (h1 : (s.toList == [102, 95, 97, 112, 112, 101, 110, 100]) = false) (h2 : (s.toList == [102, 95, 99, 111, 110, 99, 97, 116]) = false) (h3 : (s.toList == [102, 95, 109, 101, 109, 98, 101, 114]) = false) (h4 : (s.toList == [102, 95, 115, 105, 122, 101]) = false) (h5 : (s.toList == [102, 95, 102, 105, 114, 115, 116]) = false) (h6 : (s.toList == [102, 95, 108, 97, 115, 116]) = false) (h7 : (s.toList == [102, 95, 114, 101, 115, 116]) = true) : Calls Try.prog 106 #[.string s] w (FindPost 7 w) := by
 go_enter Try.func106, Try.ntmps106
 go_wp2_with fail
 exact bodyPost_ret (v := .agg #[.int .i64 1, .bool true, .bool false, .func (.func 119) #[] #[]]) (by simp [results, Try.results106, go_sem]) rfl ⟨rfl, (Below.refl _ _).alloc (Nat.le_refl _) _⟩
set_option maxRecDepth 100000 in
set_option maxHeartbeats 1000000 in
theorem find_8 (s : ByteArray) (w : World) (h0 : (s.toList == [102, 95, 99, 111, 110, 115]) = false) (h1 : (s.toList == [102, 95, 97, 112, 112, 101, 110, 100]) = false) (h2 : (s.toList == [102, 95, 99, 111, 110, 99, 97, 116]) = false) (h3 : (s.toList == [102, 95, 109, 101, 109, 98, 101, 114]) = false) (h4 : (s.toList == [102, 95, 115, 105, 122, 101]) = false) (h5 : (s.toList == [102, 95, 102, 105, 114, 115, 116]) = false) (h6 : (s.toList == [102, 95, 108, 97, 115, 116]) = false) (h7 : (s.toList == [102, 95, 114, 101, 115, 116]) = false) (h8 : (s.toList == [102, 95, 114, 101, 118, 101, 114, 115, 101]) = true) : Calls Try.prog 106 #[.string s] w (FindPost 8 w) := by
 go_enter Try.func106, Try.ntmps106
 go_wp2_with fail
 exact bodyPost_ret (v := .agg #[.int .i64 1, .bool true, .bool false, .func (.func 120) #[] #[]]) (by simp [results, Try.results106, go_sem]) rfl ⟨rfl, (Below.refl _ _).alloc (Nat.le_refl _) _⟩
set_option maxRecDepth 100000 in
set_option maxHeartbeats 1000000 in
theorem find_9 (s : ByteArray) (w : World) (h0 : (s.toList == [102, 95, 99, 111, 110, 115]) = false) (h1 : (s.toList == [102, 95, 97, 112, 112, 101, 110, 100]) = false) (h2 : (s.toList == [102, 95, 99, 111, 110, 99, 97, 116]) = false) (h3 : (s.toList == [102, 95, 109, 101, 109, 98, 101, 114]) = false) (h4 : (s.toList == [102, 95, 115, 105, 122, 101]) = false) (h5 : (s.toList == [102, 95, 102, 105, 114, 115, 116]) = false) (h6 : (s.toList == [102, 95, 108, 97, 115, 116]) = false) (h7 : (s.toList == [102, 95, 114, 101, 115, 116]) = false) (h8 : (s.toList == [102, 95, 114, 101, 118, 101, 114, 115, 101]) = false) : Calls Try.prog 106 #[.string s] w (FindPost 9 w) := by
 go_enter Try.func106, Try.ntmps106
 go_wp2_with fail
 exact bodyPost_ret (v := .agg #[.int .i64 (-1), .bool false, .bool false, .nilFunc]) (by simp [results, Try.results106, go_sem]) rfl ⟨rfl, (Below.refl _ _).alloc (Nat.le_refl _) _⟩
theorem find_any (s : ByteArray) (w : World) : Calls Try.prog 106 #[.string s] w (FindPost (fnOf s) w) := by
 unfold fnOf
 cases h0 : (s.toList == [102, 95, 99, 111, 110, 115]) with
 | true => rw [if_pos rfl]; exact find_0 s w h0
 | false =>
 rw [if_neg (by decide)]
 cases h1 : (s.toList == [102, 95, 97, 112, 112, 101, 110, 100]) with
 | true => rw [if_pos rfl]; exact find_1 s w h0 h1
 | false =>
 rw [if_neg (by decide)]
 cases h2 : (s.toList == [102, 95, 99, 111, 110, 99, 97, 116]) with
 | true => rw [if_pos rfl]; exact find_2 s w h0 h1 h2
 | false =>
 rw [if_neg (by decide)]
 cases h3 : (s.toList == [102, 95, 109, 101, 109, 98, 101, 114]) with
 | true => rw [if_pos rfl]; exact find_3 s w h0 h1 h2 h3
 | false =>
 rw [if_neg (by decide)]
 cases h4 : (s.toList == [102, 95, 115, 105, 122, 101]) with
 | true => rw [if_pos rfl]; exact find_4 s w h0 h1 h2 h3 h4
 | false =>
 rw [if_neg (by decide)]
 cases h5 : (s.toList == [102, 95, 102, 105, 114, 115, 116]) with
 | true => rw [if_pos rfl]; exact find_5 s w h0 h1 h2 h3 h4 h5
 | false =>
 rw [if_neg (by decide)]
 cases h6 : (s.toList == [102, 95, 108, 97, 115, 116]) with
 | true => rw [if_pos rfl]; exact find_6 s w h0 h1 h2 h3 h4 h5 h6
 | false =>
 rw [if_neg (by decide)]
 cases h7 : (s.toList == [102, 95, 114, 101, 115, 116]) with
 | true => rw [if_pos rfl]; exact find_7 s w h0 h1 h2 h3 h4 h5 h6 h7
 | false =>
 rw [if_neg (by decide)]
 cases h8 : (s.toList == [102, 95, 114, 101, 118, 101, 114, 115, 101]) with
 | true => rw [if_pos rfl]; exact find_8 s w h0 h1 h2 h3 h4 h5 h6 h7 h8
 | false =>
 rw [if_neg (by decide)];exact find_9 s w h0 h1 h2 h3 h4 h5 h6 h7 h8
theorem fnArity_range (k : Nat) : fnArity k = 2 ∨ fnArity k = 1 ∨ fnArity k = -1 := by
 unfold fnArity; split <;> simp
end Go.Proofs.Ytbkligcfllakeaa
