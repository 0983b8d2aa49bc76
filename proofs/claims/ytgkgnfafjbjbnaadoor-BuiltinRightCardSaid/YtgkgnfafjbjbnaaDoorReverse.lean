/-
  slices.Reverse of a slice of values that the call itself has made.
-/
import Derived.Test.YtgkgnfafjbjbnaaDoorMember
import Derived.Deep.RegionLaw
import Derived.BigQuiet
namespace Go.Proofs.YtgkgnfafjbjbnaaDoor
open Go.RowKit

/-- Behind k rounds. -/
def revTo (l : List V) (k : Nat) : List V := (List.finRange l.length).map fun i => if i.val < k ∨ l.length ≤ i.val + k then l[l.length - 1 - i.val]'(by have := i.isLt; omega) else l[i.val]
theorem revTo_length (l : List V) (k : Nat) : (revTo l k).length = l.length := by simp [revTo]
theorem revTo_get (l : List V) (k i : Nat) (h : i < (revTo l k).length) : (revTo l k)[i] = if i < k ∨ l.length ≤ i + k then l[l.length - 1 - i]'(by rw [revTo_length] at h; omega) else l[i]'(by rw [revTo_length] at h; exact h) := by
  simp [revTo]
theorem revTo_zero (l : List V) : revTo l 0 = l := by
  refine List.ext_getElem (revTo_length l 0) (fun i h1 h2 => ?_)
  rw [revTo_get, if_neg (by omega)]
theorem revTo_end (l : List V) (k : Nat) (hk : l.length ≤ 2 * k + 1) : revTo l k = l.reverse := by
  refine List.ext_getElem (by rw [revTo_length, List.length_reverse]) (fun i h1 h2 => ?_)
  rw [revTo_get, List.getElem_reverse]
  rw [revTo_length] at h1
  split
  · rfl
  · congr 1
    omega
theorem revTo_step (l : List V) (k : Nat) (hk : k < l.length) (_hk2 : k < l.length - 1 - k) : ((revTo l k).set k (l[l.length - 1 - k]'(by omega))).set (l.length - 1 - k) l[k] = revTo l (k + 1) := by
  refine List.ext_getElem (by simp [revTo_length]) (fun i h1 h2 => ?_)
  have hi : i < l.length := by rw [revTo_length] at h2; exact h2
  rw [List.getElem_set, List.getElem_set, revTo_get _ (k + 1)]
  by_cases e1 : l.length - 1 - k = i
  · subst e1
    rw [if_pos rfl, if_pos (by omega)]
    congr 1
    omega
  · rw [if_neg e1]
    by_cases e2 : k = i
    · subst e2
      rw [if_pos rfl, if_pos (by omega)]
    · rw [if_neg e2, revTo_get]
      by_cases e3 : i < k ∨ l.length ≤ i + k
      · rw [if_pos e3, if_pos (by omega)]
      · rw [if_neg e3, if_neg (by omega)]

theorem RepRow.put {S : Nat → Prop} {w : World} {l : List V} {cur : Array Value} (h : RepRow S w l cur) {k : Nat} (hk : k < l.length) {x : V} {x0 x1 x2 x3 : Value} (hx : RepG S w x x0 x1 x2 x3) (hsz : l.length * 4 ≤ cur.size) : RepRow S w (l.set k x) (put4 cur (k * 4) x0 x1 x2 x3) := by
  intro i hi
  rw [List.length_set] at hi
  by_cases e : k = i
  · subst e
    refine ⟨x0, x1, x2, x3, ?_, ?_, ?_, ?_, by rw [List.getElem_set, if_pos rfl]; exact hx⟩ <;> simp only [put4, Array.getElem?_setIfInBounds, Array.size_setIfInBounds]
    · rw [if_neg (by omega), if_neg (by omega), if_neg (by omega), if_pos trivial, if_pos (by omega)]
    · rw [if_neg (by omega), if_neg (by omega), if_pos trivial, if_pos (by omega)]
    · rw [if_neg (by omega), if_pos trivial, if_pos (by omega)]
    · rw [if_pos trivial, if_pos (by omega)]
  · obtain ⟨y0, y1, y2, y3, g0, g1, g2, g3, g⟩ := h i hi
    refine ⟨y0, y1, y2, y3, ?_, ?_, ?_, ?_, by rw [List.getElem_set, if_neg e]; exact g⟩ <;>
    · simp only [put4, Array.getElem?_setIfInBounds]
      rw [if_neg (by omega), if_neg (by omega), if_neg (by omega), if_neg (by omega)]
      assumption

/-- Behind k rounds: the row of block g. -/
def RevInv (S : Nat → Prop) (l : List V) (g cap k : Nat) (w wr : World) : Prop :=
  ∃ cur, wr.heap[g]? = some (.cells cur 24 (0, 0)) ∧ cur.size = cap * 4 ∧ RepRow S wr (revTo l k) cur ∧ w.grownBy wr (some g)

/-- Four stores of one element. -/
def set4 (w : World) (g o : Nat) (c0 c1 c2 c3 : Value) : World := (((w.setCell ⟨g, o, none⟩ c0).setCell ⟨g, o + 1, none⟩ c1).setCell ⟨g, o + 2, none⟩ c2).setCell ⟨g, o + 3, none⟩ c3
theorem set4_other (w : World) (g o : Nat) (c0 c1 c2 c3 : Value) (b : Nat) (h : b ≠ g) : (set4 w g o c0 c1 c2 c3).heap[b]? = w.heap[b]? := by
  unfold set4
  rw [Below.heap_setCell _ _ _ _ (by simpa using h), Below.heap_setCell _ _ _ _ (by simpa using h), Below.heap_setCell _ _ _ _ (by simpa using h), Below.heap_setCell _ _ _ _ (by simpa using h)]
theorem set4_same {w : World} {g : Nat} {cur : Array Value} {t : TypeId} (h : w.heap[g]? = some (.cells cur t (0, 0))) (o : Nat) (c0 c1 c2 c3 : Value) : (set4 w g o c0 c1 c2 c3).heap[g]? = some (.cells (put4 cur o c0 c1 c2 c3) t (0, 0)) :=
  heap_setCell_same _ _ _ _ _ _ (heap_setCell_same _ _ _ _ _ _ (heap_setCell_same _ _ _ _ _ _ (heap_setCell_same _ _ _ _ _ _ h)))
theorem set4_grown {w wr : World} {g : Nat} (h : w.grownBy wr (some g)) (o : Nat) (c0 c1 c2 c3 : Value) : w.grownBy (set4 wr g o c0 c1 c2 c3) (some g) := by
  refine ⟨h.os, h.tape, h.output, ?_, fun b h1 h2 => (set4_other _ _ _ _ _ _ _ _ (fun e => h2 (by rw [e]))).trans (h.block b h1 h2)⟩
  have := h.size
  simp [set4, World.setCell]
  exact this
theorem drew_at (w : World) (b : Nat) : w.drew.heap[b]? = w.heap[b]? := rfl
theorem grown_drew {w wr : World} {g : Option Nat} (h : w.grownBy wr g) : w.grownBy wr.drew g := ⟨h.os, h.tape, h.output, h.size, h.block⟩
/-- Two elements change places. -/
theorem swap_inv {S : Nat → Prop} {l : List V} {g cap k j : Nat} {w wr : World} {cur : Array Value} {x y : V} {x0 x1 x2 x3 y0 y1 y2 y3 : Value} (hS : ∀ k, S k → k < w.heap.size ∧ k ≠ g) (hkr : k < (revTo l k).length) (hjr : j < (revTo l k).length) (hkj : k < j) (hkn : k < l.length) (hj : j = l.length - 1 - k)
    (hinv : RevInv S l g cap k w wr) (hg : wr.heap[g]? = some (.cells cur 24 (0, 0))) (hsz : cur.size = cap * 4) (hl : l.length ≤ cap) (hrow : RepRow S wr (revTo l k) cur) (hx : (revTo l k)[k] = x) (hy : (revTo l k)[j] = y) (gx : RepG S wr x x0 x1 x2 x3) (gy : RepG S wr y y0 y1 y2 y3) :
    RevInv S l g cap (k + 1) w (set4 (set4 wr g (k * 4) y0 y1 y2 y3) g (j * 4) x0 x1 x2 x3).drew := by
  obtain ⟨_, _, _, _, hgr⟩ := hinv
  have hrl := revTo_length l k
  have hks : revTo l (k + 1) = ((revTo l k).set k y).set j x := by
    have h1 : y = l[l.length - 1 - k]'(by omega) := by
      rw [← hy, revTo_get, if_neg (by omega)]
      congr 1
    have h2 : x = l[k] := by rw [← hx, revTo_get, if_neg (by omega)]
    subst hj
    rw [h1, h2, revTo_step l k hkn (by omega)]
  refine ⟨put4 (put4 cur (k * 4) y0 y1 y2 y3) (j * 4) x0 x1 x2 x3, (drew_at _ g).trans (set4_same (set4_same hg _ _ _ _ _) _ _ _ _ _), by rw [put4_size, put4_size]; exact hsz, ?_, grown_drew (set4_grown (set4_grown hgr _ _ _ _ _) _ _ _ _ _)⟩
  rw [hks]
  have r1 := hrow.put hkr gy (by omega)
  have r2 := r1.put (k := j) (by simpa using hjr) gx (by rw [List.length_set, put4_size]; omega)
  exact r2.on (w' := (set4 (set4 wr g (k * 4) y0 y1 y2 y3) g (j * 4) x0 x1 x2 x3).drew) (fun _ h => h) (fun b hb => (drew_at _ b).trans <| (set4_other (set4 wr g (k * 4) y0 y1 y2 y3) g (j * 4) x0 x1 x2 x3 b (hS b hb).2).trans (set4_other wr g (k * 4) y0 y1 y2 y3 b (hS b hb).2))

set_option maxRecDepth 100000 in
set_option maxHeartbeats 2000000 in
theorem reverse_row (S : Nat → Prop) (l : List V) (g cap : Nat) (w : World) (hS : ∀ k, S k → k < w.heap.size ∧ k ≠ g) (hl : l.length ≤ cap) (hl2 : l.length ≤ 1000) (h0 : RevInv S l g cap 0 w w) :
    Calls Tryd.prog 108 #[.slice (some ⟨g, 0, none⟩) l.length cap] w fun e w' => e = .returned (.tuple #[]) ∧ ∃ k, l.length ≤ 2 * k + 1 ∧ RevInv S l g cap k w w' := by
  have H0 := Lib.hid h0; clear h0
  have HS := Lib.hid hS; clear hS
  go_enter Tryd.func108, Tryd.ntmps108
  go_wp2_with fail
  go_loopw [2, 3] (fun i j wr => ∃ k : Nat, k ≤ l.length ∧ i = .int .i64 k ∧ j = .int .i64 ((l.length : Int) - 1 - k) ∧ RevInv S l g cap k w wr) (fun i _ _ => l.length - (intOf i).toNat)
  case atStart => exact ⟨0, Nat.zero_le _, rfl, by simp, H0.out⟩
  case round =>
    obtain ⟨k, hk1, rfl, rfl, hinv⟩ := hrel
    have HI := Lib.hid hinv
    by_cases hlt : (k : Int) < (l.length : Int) - 1 - k
    · obtain ⟨cur, hg, hsz, hrow, -⟩ := hinv
      have hkn : k < l.length := by omega
      obtain ⟨j, hj⟩ : ∃ j : Nat, j = l.length - 1 - k := ⟨_, rfl⟩
      have hjz : (l.length : Int) - 1 - k = (j : Int) := by omega
      rw [hjz] at hlt ⊢
      have hj2 : j < l.length := by omega
      have hkr : k < (revTo l k).length := by rw [revTo_length]; exact hkn
      have hjr : j < (revTo l k).length := by rw [revTo_length]; exact hj2
      obtain ⟨x0, x1, x2, x3, a0, a1, a2, a3, ga⟩ := hrow k hkr
      obtain ⟨y0, y1, y2, y3, b0, b1, b2, b3, gb⟩ := hrow j hjr
      have HXE := Lib.hid (Eq.refl (revTo l k)[k]); have HYE := Lib.hid (Eq.refl (revTo l k)[j])
      generalize hxe : (revTo l k)[k] = x at ga
      generalize hye : (revTo l k)[j] = y at gb
      replace HXE := Lib.hid hxe; replace HYE := Lib.hid hye
      clear hxe hye
      have p0 := cell_of_block' hg _ a0; have p1 := cell_of_block' hg _ a1; have p2 := cell_of_block' hg _ a2; have p3 := cell_of_block' hg _ a3
      have q0 := cell_of_block' hg _ b0; have q1 := cell_of_block' hg _ b1; have q2 := cell_of_block' hg _ b2; have q3 := cell_of_block' hg _ b3
      have hjl : (j : Int) < l.length := by omega
      have hkj : k < j := by omega
      have HJ := Lib.hid hj
      have HG := Lib.hid hg; have HSZ := Lib.hid hsz; have HROW := Lib.hid hrow
      have HGA := Lib.hid ga; have HGB := Lib.hid gb
      obtain ⟨fa, fc, rfl, rfl, rfl, rfl⟩ := ga.form
      obtain ⟨fa', fc', rfl, rfl, rfl, rfl⟩ := gb.form
      have zf : ∀ i, wr.frozen? ⟨g, i, none⟩ = false := fun i => frozen_of_row wr g i _ _ hg
      clear hj hjz hg hsz hrow ga gb a0 a1 a2 a3 b0 b1 b2 b3
      have n1 : k * 4 + 3 < j * 4 := by omega
      go_wp2_with fail
      have HF := Lib.hid (swap_inv HS.out hkr hjr (by omega) hkn HJ.out HI.out HG.out HSZ.out hl HROW.out HXE.out HYE.out HGA.out HGB.out)
      go_region
      all_goals
        clear p0 p1 p2 p3 q0 q1 q2 q3 zf HGA HGB HROW HG
        go_wp2_with fail
        go_roundw
        case rel => exact ⟨k + 1, by omega, by go_num, by have := HJ.out; congr 1; omega, HF.out⟩
        case measure => simp [intOf]; omega
    · go_wp2_with fail
      go_end0
      exact ⟨rfl, k, by omega, HI.out⟩

end Go.Proofs.YtgkgnfafjbjbnaaDoor
