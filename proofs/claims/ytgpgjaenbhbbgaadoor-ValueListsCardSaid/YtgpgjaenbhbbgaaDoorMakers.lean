/-
  value.Number, Text, Addr, List: what they make.
-/
import Derived.Test.YtgpgjaenbhbbgaaDoorList
namespace Go.Proofs.YtgpgjaenbhbbgaaDoor
open Go.RowKit

def noText : ByteArray := ⟨#[]⟩
theorem repV_num (B : Nat) (w : World) (n : Int) (h : I64 n) : RepV B w (.mk 1 n ⟨#[]⟩ []) (.int .i64 1) (.int .i64 n) (.string ⟨#[]⟩) (.slice none 0 0) :=
  repV_mk.2 ⟨rfl, rfl, rfl, ⟨by omega, by omega⟩, h, by unfold maxLen; simp [ByteArray.size], none, 0, 0, 0, rfl, Nat.le_refl _, by simp, fun h => by omega, fun h => by simp at h, fun i hi => by simp at hi⟩
theorem repV_str (B : Nat) (w : World) (k : Int) (s : ByteArray) (hk : I64 k) (h : s.size ≤ maxLen) : RepV B w (.mk k 0 s []) (.int .i64 k) (.int .i64 0) (.string s) (.slice none 0 0) :=
  repV_mk.2 ⟨rfl, rfl, rfl, hk, ⟨by omega, by omega⟩, h, none, 0, 0, 0, rfl, Nat.le_refl _, by simp, fun h => by omega, fun h => by simp at h, fun i hi => by simp at hi⟩

theorem number_any (n : Int) (w : World) : Calls Tryd.prog 28 #[.int .i64 n] w fun e w' => e = .returned (.agg #[.int .i64 1, .int .i64 n, .string ⟨#[]⟩, .slice none 0 0]) ∧ Below w.heap.size w w' := by
  go_enter Tryd.func28, Tryd.ntmps28
  go_wp2
  exact bodyPost_ret (v := .agg #[.int .i64 1, .int .i64 n, .string ⟨#[]⟩, .slice none 0 0]) (by simp [results, Tryd.results28, go_sem]) rfl ⟨rfl, (Below.refl _ _).alloc (Nat.le_refl _) _⟩
theorem text_any (s : ByteArray) (w : World) : Calls Tryd.prog 29 #[.string s] w fun e w' => e = .returned (.agg #[.int .i64 2, .int .i64 0, .string s, .slice none 0 0]) ∧ Below w.heap.size w w' := by
  go_enter Tryd.func29, Tryd.ntmps29
  go_wp2
  exact bodyPost_ret (v := .agg #[.int .i64 2, .int .i64 0, .string s, .slice none 0 0]) (by simp [results, Tryd.results29, go_sem]) rfl ⟨rfl, (Below.refl _ _).alloc (Nat.le_refl _) _⟩
theorem addr_any (s : ByteArray) (w : World) : Calls Tryd.prog 30 #[.string s] w fun e w' => e = .returned (.agg #[.int .i64 3, .int .i64 0, .string s, .slice none 0 0]) ∧ Below w.heap.size w w' := by
  go_enter Tryd.func30, Tryd.ntmps30
  go_wp2
  exact bodyPost_ret (v := .agg #[.int .i64 3, .int .i64 0, .string s, .slice none 0 0]) (by simp [results, Tryd.results30, go_sem]) rfl ⟨rfl, (Below.refl _ _).alloc (Nat.le_refl _) _⟩

set_option maxRecDepth 100000 in
set_option maxHeartbeats 1000000 in
theorem list_any (l : List V) (B : Nat) (w : World) (a : Value) (hB : B ≤ w.heap.size) (ha : RepL B w l a) :
    Calls Tryd.prog 8 #[a] w fun e w' => ∃ r, e = .returned (.agg #[.int .i64 4, .int .i64 0, .string ⟨#[]⟩, r]) ∧ RepLG (fun b => w.heap.size ≤ b ∧ b < w'.heap.size) w' l r ∧ Below w.heap.size w w' := by
  have HA := Lib.hid ha
  obtain ⟨aa, ab, ao, ac, rfl, -⟩ := ha
  go_enter Tryd.func8, Tryd.ntmps8
  go_wp2_with fail
  have hb2 : Below w.heap.size w (w.alloc (.cells #[.int .i64 0, .int .i64 0, .string ⟨#[]⟩, .slice none 0 0] 24)) := (Below.refl _ w).alloc (Nat.le_refl _) _
  refine (copied_any l B _ _ (by simp; omega) (RepL.below (fun j hj => hb2.block j (by omega)) HA.out)).mono ?_
  rintro e w3 ⟨r, rfl, hrl, hb3⟩
  obtain ⟨ra, rb, ro, rc, hr1, -⟩ := id hrl
  subst hr1
  have b1 : w3.heap[w.heap.size]? = _ := (hb3.block w.heap.size (by simp)).trans (alloc_new' _ _)
  have z0 := frozen_of_row w3 _ 0 _ _ b1
  have z1 := frozen_of_row w3 _ 1 _ _ b1
  have z2 := frozen_of_row w3 _ 2 _ _ b1
  have z3 := frozen_of_row w3 _ 3 _ _ b1
  have d0 := cell_of_block' (i := 0) b1 _ rfl
  have d1 := cell_of_block' (i := 1) b1 _ rfl
  have d2 := cell_of_block' (i := 2) b1 _ rfl
  have d3 := cell_of_block' (i := 3) b1 _ rfl
  have hw3 : Below w.heap.size w w3 := hb2.trans (hb3.mono (by simp))
  have hs3 := hb3.size
  simp only [World.size_alloc] at hs3
  clear b1
  have HRL := Lib.hid hrl; clear hrl
  go_wp2_with fail
  refine bodyPost_ret (v := .agg #[.int .i64 4, .int .i64 0, .string ⟨#[]⟩, .slice ra l.length rc]) (by simp [results, Tryd.results8, go_sem, d0, d1, d2, d3]) rfl ⟨_, rfl, ?_, ?_⟩
  · refine HRL.out.on (fun b hb => ⟨by have := hb.1; simp at this; omega, by simp [World.setCell]; exact hb.2⟩) (fun b hb => ?_)
    have h1 : b ≠ w.heap.size := by have := hb.1; simp at this; omega
    rw [Below.heap_setCell _ _ _ _ (by simpa using h1), Below.heap_setCell _ _ _ _ (by simpa using h1), Below.heap_setCell _ _ _ _ (by simpa using h1), Below.heap_setCell _ _ _ _ (by simpa using h1)]
  · exact (((hw3.setCell (Nat.le_refl _) _).setCell (Nat.le_refl _) _).setCell (Nat.le_refl _) _).setCell (Nat.le_refl _) _

end Go.Proofs.YtgpgjaenbhbbgaaDoor
