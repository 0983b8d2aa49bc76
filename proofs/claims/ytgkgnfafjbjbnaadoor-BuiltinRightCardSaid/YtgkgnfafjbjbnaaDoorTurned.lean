/-
  slices.Clone of a slice of values; builtin's reverse.
-/
import Derived.Test.YtgkgnfafjbjbnaaDoorReverse
import Derived.Lib.SliceRun
namespace Go.Proofs.YtgkgnfafjbjbnaaDoor
open Go.RowKit

/-- The same elements in a row of the call's own. -/
def ClonePost (l : List V) (B : Nat) (w : World) (e : Ending) (w' : World) : Prop := ∃ a n c, e = .returned (.slice a n c) ∧ OwnL (fun b => b < B) w' w.heap.size l (.slice a n c) ∧ Below w.heap.size w w'

theorem own_empty (S : Nat → Prop) (w : World) : OwnL S (w.alloc (.cells #[] 24)) w.heap.size [] (.slice (some ⟨w.heap.size, 0, none⟩) 0 0) :=
  ⟨[], ⟨rfl, .inr ⟨w.heap.size, 0, #[], rfl, Nat.le_refl _, alloc_new' _ _, Nat.le_refl _, Nat.zero_le _, rfl, rfl⟩⟩, fun i hi => by simp at hi⟩

set_option maxRecDepth 100000 in
set_option maxHeartbeats 1000000 in
theorem clone_any (l : List V) (B : Nat) (w : World) (a : Value) (hB : B ≤ w.heap.size) (ha : RepL B w l a) (hl : l.length ≤ 1000) :
    Calls Tryd.prog 107 #[a] w (ClonePost l B w) := by
  obtain ⟨aa, ab, ao, ac, rfl, h6, h7, h8, h9, h10⟩ := id ha
  have q22 : ∀ (w : World) (a : Option Addr) (n c n' c' : Nat), (binOp .eql 22 (.slice a n c) (.slice none n' c')).run Tryd.prog w = .ok (.bool a.isNone) w := fun w a n c n' c' => Lib.run_eql_slice_nil w _ _ a n c n' c' Tryd.underlying22
  rcases aa with _ | ad
  · have hc : ac = 0 := by
      by_cases hc : 0 < ac
      · have := h8 hc; cases this
      · omega
    subst hc
    obtain rfl : l = [] := List.length_eq_zero_iff.1 (by omega)
    clear ha h6 h7 h8 h9 h10
    simp only [List.length_nil]
    go_enter Tryd.func107, Tryd.ntmps107
    go_wp2_with fail
    go_ret
    exact ⟨none, 0, 0, rfl, OwnL.nil _ _ _, Below.refl _ _⟩
  · have hb1 : Below w.heap.size w (w.alloc (.cells #[] 24)) := (Below.refl _ w).alloc (Nat.le_refl _) _
    obtain ⟨v', w2, hrun, hown, hgr, hv⟩ := append_run (w.alloc (.cells #[] 24)) w.heap.size 22 (own_empty (fun b => b < B) w) (RepL.below (fun j hj => hb1.block j (by omega)) ha) (fun k hk => ⟨by simp; omega, by simp [Value.ownBlock]; omega⟩) (by simp; omega) (by simp)
    rw [List.nil_append] at hown
    obtain ⟨ra, rc, rfl⟩ := own_slice hown
    have HR := Lib.hid hrun
    have HO := Lib.hid hown
    have HB := Lib.hid (show Below w.heap.size w w2 from ⟨hgr.os.trans hb1.os, hgr.tape.trans hb1.tape, hgr.output.trans hb1.output, Nat.le_trans hb1.size hgr.size, fun k hk => (hgr.block k (by simp; omega) (by simp [Value.ownBlock]; omega)).trans (hb1.block k hk)⟩)
    clear ha h6 h7 h8 h9 h10 hrun hown hgr hv hb1
    generalize l.length = len at *
    go_enter Tryd.func107, Tryd.ntmps107
    go_wp2_with (at_builtin; refine Lib.wpList_append_run _ rfl _ _ _ _ rfl _ _ rfl rfl _ _ HR.out ?_)
    go_ret
    exact ⟨_, _, _, rfl, HO.out, HB.out⟩

/-- A row of the call's own in block g, turned about. -/
theorem own_turned {B : Nat} {w : World} {base : Nat} {l : List V} {a : Option Addr} {n c : Nat} (h : OwnL (fun b => b < B) w base l (.slice a n c)) (_hB : B ≤ base) : n = l.length ∧ ((l = [] ∧ a = none ∧ c = 0) ∨ ∃ g, a = some ⟨g, 0, none⟩ ∧ l.length ≤ c ∧ base ≤ g ∧ g < w.heap.size ∧ RevInv (fun b => b < B) l g c 0 w w) := by
  obtain ⟨xs, ⟨hlen, hown⟩, hr⟩ := h
  rcases hown with ⟨e, hn⟩ | ⟨g, cap, cur, e, hbg, hh, hnc, hcm, hcs, htk⟩
  · cases e
    have hl : l = [] := List.length_eq_zero_iff.1 hn
    subst hl
    exact ⟨rfl, .inl ⟨rfl, rfl, rfl⟩⟩
  · cases e
    refine ⟨rfl, .inr ⟨g, rfl, hnc, hbg, (Array.getElem?_eq_some_iff.1 hh).1, cur, hh, hcs, ?_, World.grownBy.refl w _⟩⟩
    rw [revTo_zero]
    intro i hi
    obtain ⟨z0, z1, z2, z3, g0, g1, g2, g3, gg⟩ := hr i hi
    have key : ∀ j v, j < l.length * 4 → xs.toArray[j]? = some v → cur[j]? = some v := by
      intro j v hj hv
      rw [List.getElem?_toArray, ← htk, List.getElem?_take, if_pos hj] at hv
      rw [← Array.getElem?_toList]; exact hv
    exact ⟨z0, z1, z2, z3, key _ _ (by omega) g0, key _ _ (by omega) g1, key _ _ (by omega) g2, key _ _ (by omega) g3, gg⟩

/-- Reverse of such a row. -/
def TurnPost (l : List V) (B base : Nat) (v : Value) (w : World) (e : Ending) (w' : World) : Prop := e = .returned (.tuple #[]) ∧ RepLG (fun b => b < B ∨ (base ≤ b ∧ b < w'.heap.size)) w' l.reverse v ∧ Below base w w'
theorem turn_any (l : List V) (B base : Nat) (w : World) (a : Option Addr) (n c : Nat) (hB : B ≤ base) (_hbase : base ≤ w.heap.size) (h : OwnL (fun b => b < B) w base l (.slice a n c)) (hl : l.length ≤ 1000) :
    Calls Tryd.prog 108 #[.slice a n c] w (TurnPost l B base (.slice a n c) w) := by
  obtain ⟨rfl, ⟨rfl, rfl, rfl⟩ | ⟨g, rfl, hc, hbg, hg, hinv⟩⟩ := own_turned h hB
  · clear h
    simp only [List.length_nil]
    go_enter Tryd.func108, Tryd.ntmps108
    go_wp2_with fail
    refine wp_loop_rounds 1 ?_
    rw [rounds_succ]
    go_wp2_with fail
    go_end0
    exact ⟨rfl, rep_nil, Below.refl _ _⟩
  · refine (reverse_row (fun b => b < B) l g c w (fun k hk => ⟨by omega, by omega⟩) hc hl hinv).mono ?_
    rintro e w' ⟨rfl, k, hk, cur, hh, hsz, hrow, hgr⟩
    rw [revTo_end l k hk] at hrow
    refine ⟨rfl, ?_, hgr.os, hgr.tape, hgr.output, hgr.size, fun j hj => hgr.block j (by omega) (fun e => by have := Option.some.inj e; omega)⟩
    have := (hrow.on (S' := fun b => b < B ∨ (base ≤ b ∧ b < w'.heap.size)) (fun _ h => .inl h) (fun _ _ => rfl)).slice hh (.inr ⟨hbg, (Array.getElem?_eq_some_iff.1 hh).1⟩) (cap := c) (by rw [List.length_reverse]; exact hc) (by rw [List.length_reverse]; omega)
    rw [List.length_reverse] at this
    exact this

set_option maxRecDepth 100000 in
set_option maxHeartbeats 1000000 in
theorem turned_any (x : V) (B : Nat) (w : World) (a : Value) (hB : B ≤ w.heap.size) (ha : RepL B w [x] a) (hx : x.list.length ≤ 100) :
    Calls Tryd.prog 83 #[a] w (DoPost (listV x.list.reverse) w) := by
  have hb1 : Below w.heap.size w (w.alloc (.cells #[.int .i64 0, .int .i64 0, .string ⟨#[]⟩, .slice none 0 0] 24)) := (Below.refl _ w).alloc (Nat.le_refl _) _
  have HX := Lib.hid (boxed_new w (.int .i64 0) (.int .i64 0) (.string ⟨#[]⟩) (.slice none 0 0))
  have HB1 := Lib.hid hb1
  have HS1 := Lib.hid (World.size_alloc w (.cells #[.int .i64 0, .int .i64 0, .string ⟨#[]⟩, .slice none 0 0] 24))
  obtain ⟨aa, ab, ao, ac, rfl, hac, -⟩ := id ha
  obtain ⟨-, -, b, o, fa, fc, rfl, hSb, g0, g1, g2, g3, g⟩ := RepLG.at (RepL.below (w' := (w.alloc (.cells #[.int .i64 0, .int .i64 0, .string ⟨#[]⟩, .slice none 0 0] 24))) (fun j hj => hb1.block j (by omega)) ha) 0 (by simp)
  simp only [List.getElem_cons_zero, Nat.zero_mul, Nat.add_zero] at g0 g1 g2 g3 g
  have GX := Lib.hid g.lst
  clear ha g hb1
  go_enter Tryd.func83, Tryd.ntmps83
  go_wp2_with fail
  refine (clone_any x.list B _ _ (by simp; omega) GX.out (by omega)).mono ?_
  rintro e w2 ⟨ca, cn, cc, rfl, hown, hb2⟩
  have HB2 := Lib.hid hb2
  have HO := Lib.hid hown
  clear hown hb2 g0 g1 g2 g3
  go_wp2_with fail
  refine (turn_any x.list B _ _ _ _ _ (by simp; omega) HB2.out.size HO.out (by omega)).mono ?_
  rintro e w3 ⟨rfl, hr3, hb3⟩
  have HB3 := Lib.hid (HB2.out.trans hb3)
  have HR3 := Lib.hid hr3
  clear hr3 hb3
  go_wp2_with fail
  refine (sharing_any _ _ _ _).mono ?_
  rintro e w4 ⟨rfl, hb4⟩
  have HB4 := Lib.hid (Below.step HB3.out hb4)
  have HR4 := Lib.hid (HR3.out.on (w' := w4) (fun _ h => h) (fun k hk => hb4.block k (by have := HB3.out.size; simp at this hk; omega)))
  have X4 := HX.out.on HB4.out
  obtain ⟨r0, r1, r2, r3⟩ := X4.cells
  have z0 := frozen_of_row w4 _ 0 _ _ X4
  have z1 := frozen_of_row w4 _ 1 _ _ X4
  have z2 := frozen_of_row w4 _ 2 _ _ X4
  have z3 := frozen_of_row w4 _ 3 _ _ X4
  have hs4 := hb4.size
  have hs3 := HB3.out.size
  clear X4 hb4
  go_wp2_with fail
  refine bodyPost_ret (by simp [results, Tryd.results83, go_sem, r0, r1, r2, r3]; rfl) rfl ?_
  exact ⟨_, _, _, _, rfl, RepG.past4 (rep_list HR4.out) w.heap.size (by simp; omega) (fun b h => by simp at h hs3; omega) _ _ _ _, stored4 (Below.trans HB1.out (HB4.out.mono (by simp))) w.heap.size (Nat.le_refl _) _ _ _ _⟩

end Go.Proofs.YtgkgnfafjbjbnaaDoor
