/-
  slices.Grow of nothing and slices.Concat of two slices of values: a new slice with the elements of both.
-/
import Derived.Test.YtgpgjaenbhbbgaaDoorAppend
import Derived.Test.YtgpgjaenbhbbgaaDoorBoxed
import Derived.Lib.AppendZeros
import Derived.LoopN
namespace Go.Proofs.YtgpgjaenbhbbgaaDoor
open Go.RowKit

/-- A slice of the call's own, without elements. -/
def GrowPost (w : World) (e : Ending) (w' : World) : Prop := ∃ a cap, e = .returned (.slice a 0 cap) ∧ OwnL (fun b => b < w.heap.size) w' w.heap.size [] (.slice a 0 cap) ∧ Below w.heap.size w w'

theorem run_grow (w : World) (n : Nat) (h0 : 0 < n) (hn : n ≤ 1000) : ∃ w', (Builtin.append_ #[22, 3] 22 #[.slice none 0 0, .int .i64 n]).run Tryd.prog w = .ok (.slice (some ⟨w.heap.size, 0, none⟩) n (grownCap w n 0 24)) w' ∧
    OwnL (fun b => b < w.heap.size) w' w.heap.size [] (.slice (some ⟨w.heap.size, 0, none⟩) 0 (grownCap w n 0 24)) ∧ Below w.heap.size w w' := by
  obtain ⟨i0, hi, hz0, hz1, hz2⟩ := info_parts infoValue
  have h := Lib.run_append_nil_zeros (P := Tryd.prog) w 22 3 22 24 i0 _ .i64 .i64 Tryd.underlying22 Tryd.underlying3 hi hz0 n h0 (by rw [hz1]; omega) (by omega) (by rw [hz2]; omega)
  refine ⟨_, h, ⟨[], ⟨rfl, .inr ⟨w.heap.size, _, _, rfl, Nat.le_refl _, alloc_new' _ _, Nat.zero_le _, grownCap_le_maxLen _ _ _ _ (by unfold maxLen; omega), ?_, rfl⟩⟩, fun i hi => by simp at hi⟩, (Below.drew (Below.refl _ w)).alloc (Nat.le_refl _) _⟩
  have := grownCap_ge w n 0 24
  rw [Array.size_append, size_zeroCells, size_zeroCells]
  simp [Value.cells]
  omega

set_option maxRecDepth 100000 in
set_option maxHeartbeats 1000000 in
theorem grow_any (w : World) (n : Nat) (hn : n ≤ 1000) :
    Calls Tryd.prog 104 #[.slice none 0 0, .int .i64 n] w (GrowPost w) := by
  by_cases h0 : 0 < n
  · obtain ⟨w', hrun, hown, hb⟩ := run_grow w n h0 hn
    have HRUN := Lib.hid hrun; have HOWN := Lib.hid hown; have HB := Lib.hid hb
    generalize grownCap w n 0 24 = cap at *
    clear hrun hown hb
    go_enter Tryd.func104, Tryd.ntmps104
    go_wp2_with (at_builtin; refine Lib.wpList_append_run _ rfl _ _ _ _ rfl _ _ rfl rfl _ _ HRUN.out ?_)
    go_ret
    exact ⟨_, cap, rfl, HOWN.out, HB.out⟩
  · obtain rfl : n = 0 := by omega
    clear h0
    go_enter Tryd.func104, Tryd.ntmps104
    go_wp2_with fail
    go_ret
    exact ⟨none, 0, rfl, OwnL.nil _ _ _, Below.refl _ _⟩

theorem own_slice {S : Nat → Prop} {w : World} {base : Nat} {l : List V} {v : Value} (h : OwnL S w base l v) : ∃ a cap, v = .slice a l.length cap := by
  obtain ⟨xs, ⟨_, hown⟩, _⟩ := h
  rcases hown with ⟨rfl, hn⟩ | ⟨g, cap, cur, rfl, _⟩
  · exact ⟨none, 0, by rw [hn]⟩
  · exact ⟨_, _, rfl⟩
theorem own_nil {S S' : Nat → Prop} {w : World} {base : Nat} {v : Value} (h : OwnL S w base [] v) : OwnL S' w base [] v := by
  obtain ⟨xs, hown, _⟩ := h
  exact ⟨xs, hown, fun i hi => by simp at hi⟩
/-- Two appends, one behind the other, onto a slice of the call's own. -/
theorem append_two (w : World) (base : Nat) {S : Nat → Prop} (hSb : ∀ k, S k → k < base) {l m : List V} {v sa sb : Value} (hl : OwnL S w base [] v) (ha : RepLG S w l sa) (hb : RepLG S w m sb) (hl1 : l.length ≤ 100) (hm1 : m.length ≤ 100) (hbase : base ≤ w.heap.size) :
    ∃ (a1 : Option Addr) (n1 c1 : Nat) (w1 : World) (a2 : Option Addr) (n2 c2 : Nat) (w2 : World), (Builtin.append_ #[22, 22] 22 #[v, sa]).run Tryd.prog w = .ok (.slice a1 n1 c1) w1 ∧ (Builtin.append_ #[22, 22] 22 #[.slice a1 n1 c1, sb]).run Tryd.prog w1 = .ok (.slice a2 n2 c2) w2 ∧
      OwnL S w2 base (l ++ m) (.slice a2 n2 c2) ∧ Below base w w1 ∧ Below base w w2 := by
  have low : ∀ {w : World} {l : List V} {v : Value}, OwnL S w base l v → ∀ k, v.ownBlock = some k → base ≤ k := by
    intro w l v h k hk
    obtain ⟨xs, ⟨_, hown⟩, _⟩ := h
    rcases hown with ⟨rfl, hn⟩ | ⟨g, cap, cur, rfl, hbg, hh, _⟩
    · simp [Value.ownBlock] at hk
    · simp [Value.ownBlock] at hk
      omega
  obtain ⟨v1, w1, r1, o1, g1, -⟩ := append_run w base 22 hl ha (fun k hk => ⟨by have := hSb k hk; omega, fun e => by have := low hl k e; have := hSb k hk; omega⟩) (by simp; omega) hbase
  have s1 := g1.size
  have b1 : Below base w w1 := ⟨g1.os, g1.tape, g1.output, g1.size, fun k hk => g1.block k (by omega) (fun e => by have := low hl k e.symm; omega)⟩
  obtain ⟨v2, w2, r2, o2, g2, -⟩ := append_run w1 base 22 o1 (hb.on (fun _ h => h) (fun k hk => b1.block k (hSb k hk))) (fun k hk => ⟨by have := hSb k hk; omega, fun e => by have := low o1 k e; have := hSb k hk; omega⟩) (by simp; omega) (by omega)
  have b2 : Below base w1 w2 := ⟨g2.os, g2.tape, g2.output, g2.size, fun k hk => g2.block k (by omega) (fun e => by have := low o1 k e.symm; omega)⟩
  rw [List.nil_append] at o2
  obtain ⟨a1, c1, rfl⟩ := own_slice o1
  obtain ⟨a2, c2, rfl⟩ := own_slice o2
  exact ⟨a1, _, c1, w1, a2, _, c2, w2, r1, r2, o2, b1, b1.trans b2⟩

/-- Both lists' elements, in a row of the call's own; the lists within lie where they lay. -/
def ConcatPost (B : Nat) (l : List V) (w : World) (e : Ending) (w' : World) : Prop := ∃ r, e = .returned r ∧ RepLG (fun b => b < B ∨ (w.heap.size ≤ b ∧ b < w'.heap.size)) w' l r ∧ Below w.heap.size w w'

set_option maxRecDepth 100000 in
set_option maxHeartbeats 4000000 in
theorem concat_any (l m : List V) (B : Nat) (w : World) (sa sb : Value) (b : Nat) (hB : B ≤ w.heap.size) (hb : w.heap[b]? = some (.cells #[sa, sb] 22 (0, 0))) (ha : RepL B w l sa) (hm : RepL B w m sb) (hl1 : l.length ≤ 100) (hm1 : m.length ≤ 100) :
    Calls Tryd.prog 96 #[.slice (some ⟨b, 0, none⟩) 2 2] w (ConcatPost B (l ++ m) w) := by
  have hlt : b < w.heap.size := (Array.getElem?_eq_some_iff.1 hb).1
  have HA := Lib.hid ha; have HM := Lib.hid hm
  obtain ⟨aa, ab, ao, ac, rfl, -⟩ := ha
  obtain ⟨ma, mb, mo, mc, rfl, -⟩ := hm
  have q0 := cell_of_block' (i := 0) hb _ rfl
  have q1 := cell_of_block' (i := 1) hb _ rfl
  have HB := Lib.hid hb
  clear hb
  go_enter Tryd.func96, Tryd.ntmps96
  go_wp2_with fail
  refine wp_loop_rounds 3 ?_
  rw [rounds_succ]
  go_wp2_with fail
  rw [rounds_succ]
  go_wp2_with fail
  rw [rounds_succ]
  go_wp2_with fail
  rw [show ((l.length : Int) + (m.length : Int)) = ((l.length + m.length : Nat) : Int) by omega]
  refine (grow_any w (l.length + m.length) (by omega)).mono ?_
  rintro e w1 ⟨ga, gc, rfl, hown, hb1⟩
  obtain ⟨a1, n1, c1, w2, a2, n2, c2, w3, r1, r2, o2, b2, b3⟩ := append_two (S := fun b => b < B) w1 w.heap.size (fun k hk => Nat.lt_of_lt_of_le hk hB) (own_nil hown) (RepLG.on (fun b hb => hb) (fun k hk => hb1.block k (Nat.lt_of_lt_of_le hk hB)) HA.out) (RepLG.on (fun b hb => hb) (fun k hk => hb1.block k (Nat.lt_of_lt_of_le hk hB)) HM.out) hl1 hm1 hb1.size
  have H1 := (hb1.block b hlt).trans HB.out
  have H2 := (b2.block b hlt).trans H1
  have H3 := (b3.block b hlt).trans H1
  clear q0 q1
  have q0 := cell_of_block' (i := 0) H1 _ rfl
  have q1 := cell_of_block' (i := 1) H2 _ rfl
  have R1 := Lib.hid r1; have R2 := Lib.hid r2
  have HO := Lib.hid (o2.rep (S' := fun b => b < B ∨ (w.heap.size ≤ b ∧ b < w3.heap.size)) (fun k hk => .inl hk) (fun g h1 hg => .inr ⟨h1, hg⟩) (by simp; omega))
  have HBB := Lib.hid (hb1.trans b3)
  clear r1 r2 o2 b2 b3 H1 H2 H3 hown hb1
  go_wp2_with fail
  refine wp_loop_rounds 3 ?_
  rw [rounds_succ]
  go_wp2_with (at_builtin; refine Lib.wpList_append_run _ rfl _ _ _ _ rfl _ _ rfl rfl _ _ R1.out ?_)
  rw [rounds_succ]
  go_wp2_with (at_builtin; refine Lib.wpList_append_run _ rfl _ _ _ _ rfl _ _ rfl rfl _ _ R2.out ?_)
  rw [rounds_succ]
  go_wp2_with fail
  go_ret
  exact ⟨_, rfl, HO.out, HBB.out⟩

end Go.Proofs.YtgpgjaenbhbbgaaDoor
