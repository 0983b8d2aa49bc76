/-
  The document's own maker of numbers.
-/
import Derived.Test.YtaomlkglodeaoaaDoorW02
import Derived.Test.YtaomlkglodeaoaaDoorW15
import Derived.Test.YtaomlkglodeaoaaDoorW16
import Derived.Test.YtaomlkglodeaoaaDoorW09
import Derived.Test.YtaomlkglodeaoaaDoorW12
import Derived.Deep.RegionLaw
namespace Go.Proofs.YtaomlkglodeaoaaDoor
open Go.RowKit

theorem refNumber_any (n : Int) (w : World) : Calls Tryd.prog 28 #[.int .i64 n] w fun e w' => e = .returned (.agg #[.int .i64 1, .int .i64 n, .string ⟨#[]⟩, .slice none 0 0]) ∧ Below w.heap.size w w' := by
  go_enter Tryd.func28, Tryd.ntmps28
  go_wp2
  exact bodyPost_ret (v := .agg #[.int .i64 1, .int .i64 n, .string ⟨#[]⟩, .slice none 0 0]) (by simp [results, Tryd.results28, go_sem]) rfl ⟨rfl, (Below.refl _ _).alloc (Nat.le_refl _) _⟩

end Go.Proofs.YtaomlkglodeaoaaDoor

/-
  The document's own answer of a value that must be right.
-/
namespace Go.Proofs.YtaomlkglodeaoaaDoor
open Go.RowKit

def zeroCells : Value := .agg #[.int .i64 0, .int .i64 0, .string ⟨#[]⟩, .slice none 0 0]
def MadePost (x : V) (c0 c1 c2 c3 : Value) (w : World) (e : Ending) (w' : World) : Prop := e = .returned (.tuple #[if rightV 4 x = true then .agg #[c0, c1, c2, c3] else zeroCells, .bool (rightV 4 x)]) ∧ Below w.heap.size w w'

set_option maxRecDepth 100000 in
set_option maxHeartbeats 2000000 in
theorem made_any (x : V) (B : Nat) (w : World) (c0 c1 c2 c3 : Value) (hB : B ≤ w.heap.size) (hx : RepV B w x c0 c1 c2 c3) :
    Calls Tryd.prog 31 #[.agg #[c0, c1, c2, c3]] w (MadePost x c0 c1 c2 c3 w) := by
  have HX := Lib.hid hx
  obtain ⟨fa, fc, rfl, rfl, rfl, rfl⟩ := hx.form
  clear hx
  go_enter Tryd.func31, Tryd.ntmps31
  go_wp2_with fail
  have x1 := boxed_new w (.int .i64 x.kind) (.int .i64 x.num) (.string x.text) (.slice fa x.list.length fc)
  have b1 := (Below.refl _ w).alloc (Nat.le_refl _) (.cells #[.int .i64 x.kind, .int .i64 x.num, .string x.text, .slice fa x.list.length fc] 24)
  have hw1s := World.size_alloc w (.cells #[.int .i64 x.kind, .int .i64 x.num, .string x.text, .slice fa x.list.length fc] 24)
  generalize w.alloc (.cells #[.int .i64 x.kind, .int .i64 x.num, .string x.text, .slice fa x.list.length fc] 24) = w1 at *
  have k2 := boxed_new w1 (.int .i64 0) (.int .i64 0) (.string ⟨#[]⟩) (.slice none 0 0)
  have b2 := (Below.refl _ w1).alloc (Nat.le_refl _) (.cells #[.int .i64 0, .int .i64 0, .string ⟨#[]⟩, .slice none 0 0] 24)
  generalize w1.alloc (.cells #[.int .i64 0, .int .i64 0, .string ⟨#[]⟩, .slice none 0 0] 24) = w2 at *
  rw [hw1s] at k2
  have B2 := Below.step b1 b2
  refine (refRight_any x B _ _ _ _ _ (Nat.le_trans hB B2.size) (RepV.on B2 hB HX.out)).mono ?_
  rintro e w3 ⟨rfl, b3⟩
  have B3 := Lib.hid (Below.step B2 b3)
  have K3 := Lib.hid (k2.on b3)
  obtain ⟨p0, p1, p2, p3⟩ := ((x1.on b2).on b3).cells
  obtain ⟨r0, r1, r2, r3⟩ := K3.out.cells
  have z0 := frozen_of_row w3 _ 0 _ _ K3.out
  have z1 := frozen_of_row w3 _ 1 _ _ K3.out
  have z2 := frozen_of_row w3 _ 2 _ _ K3.out
  have z3 := frozen_of_row w3 _ 3 _ _ K3.out
  clear x1 b1 b2 b3 k2 B2 hw1s
  cases hr : rightV 4 x with
  | false =>
    have HF : Hid (rightV 4 x = false) := hr
    clear hr
    go_wp2_with fail
    refine bodyPost_ret (v := .tuple #[zeroCells, .bool false]) (by simp [results, zeroCells, Tryd.results31, go_sem, r0, r1, r2, r3]) rfl ?_
    exact ⟨by rw [HF.out]; rfl, stored4 B3.out (w.heap.size + 1) (by omega) _ _ _ _⟩
  | true =>
    have HF : Hid (rightV 4 x = true) := hr
    clear hr
    go_wp2_with fail
    refine bodyPost_ret (v := .tuple #[.agg #[.int .i64 x.kind, .int .i64 x.num, .string x.text, .slice fa x.list.length fc], .bool true]) (by simp [results, Tryd.results31, go_sem, r0, r1, r2, r3]) rfl ?_
    exact ⟨by rw [HF.out]; rfl, stored4 B3.out (w.heap.size + 1) (by omega) _ _ _ _⟩

end Go.Proofs.YtaomlkglodeaoaaDoor

/-
  The document's own 'list': the elements of some lists, one behind the other.
-/
namespace Go.Proofs.YtaomlkglodeaoaaDoor
open Go.RowKit

/-- Every block of S is below n. -/
structure Under (S : Nat → Prop) (n : Nat) : Prop where
  lt : ∀ k, S k → k < n
theorem Under.up {S : Nat → Prop} {n m : Nat} (h : Under S n) (hn : n ≤ m) : Under S m := ⟨fun k hk => Nat.lt_of_lt_of_le (h.lt k hk) hn⟩
def JoinPost (B : Nat → Prop) (L : List V) (w : World) (e : Ending) (w' : World) : Prop := ∃ (ra : Option Addr) (rn rc : Nat), e = .returned (.tuple #[if rightV 4 (listV L) = true then .agg #[.int .i64 4, .int .i64 0, .string ⟨#[]⟩, .slice ra rn rc] else zeroCells, .bool (rightV 4 (listV L))]) ∧ RepLG (fun k => B k ∨ (w.heap.size < k ∧ k < w'.heap.size)) w' L (.slice ra rn rc) ∧ Below w.heap.size w w'

theorem join_run {B : Nat → Prop} {base : Nat} {w : World} {L M X : List V} {v x : Value} (hX : X = L ++ M) (hl : OwnL (fun b => B b) w base L v) (hB : Under B base) (hbase : base ≤ w.heap.size) (hm : RepLG (fun b => B b) w M x) (hlen : L.length + M.length ≤ 1000) :
    ∃ (a : Option Addr) (c : Nat) (w' : World), (Builtin.append_ #[22, 22] 22 #[v, x]).run Tryd.prog w = .ok (.slice a X.length c) w' ∧ OwnL (fun b => B b) w' base X (.slice a X.length c) ∧ Below base w w' := by
  subst hX
  obtain ⟨v', w', hrun, ho, hg, -⟩ := append_run w base 22 hl hm (fun k hk => ⟨Nat.lt_of_lt_of_le (hB.lt k hk) hbase, fun e => by have := (OwnL.lies hl k e).1; have := hB.lt k hk; omega⟩) (by omega) hbase
  obtain ⟨a, c, rfl⟩ := own_slice ho
  exact ⟨a, c, w', hrun, ho, ⟨hg.os, hg.tape, hg.output, hg.size, fun k hk => hg.block k (by omega) (fun e => by have := (OwnL.lies hl k e.symm).1; omega)⟩⟩
theorem own_far {B : Nat → Prop} {base : Nat} {w : World} {L : List V} {v : Value} (h : OwnL (fun b => B b) w base L v) (_hB : Under B base) {p : Addr} (h1 : Under B p.block) (h2 : p.block < base) (c : Value) : OwnL (fun b => B b) (w.setCell p c) base L v :=
  OwnL.on h (fun k hk => hk) (fun k hk => Below.heap_setCell _ _ _ _ (by have := h1.lt k hk; omega)) (fun k hk _ _ => Below.heap_setCell _ _ _ _ (by omega))

theorem join_past {wz : World} {k : Nat} {B : Nat → Prop} {L : List V} {v : Value} (hB : Under B k) (_hk : k < wz.heap.size) (h : RepLG (fun j => B j ∨ (k < j ∧ j < wz.heap.size)) wz L v) (c0 c1 c2 c3 : Value) : RepLG (fun j => B j ∨ (k < j ∧ j < ((((wz.setCell ⟨k, 0, none⟩ c0).setCell ⟨k, 1, none⟩ c1).setCell ⟨k, 2, none⟩ c2).setCell ⟨k, 3, none⟩ c3).heap.size)) ((((wz.setCell ⟨k, 0, none⟩ c0).setCell ⟨k, 1, none⟩ c1).setCell ⟨k, 2, none⟩ c2).setCell ⟨k, 3, none⟩ c3) L v :=
  RepLG.on (fun j hj => hj.imp id (fun h => ⟨h.1, by simp [World.setCell]; exact h.2⟩)) (fun j hj => by
    have h1 : j ≠ k := by
      rcases hj with h | h
      · have := hB.lt j h; omega
      · omega
    rw [Below.heap_setCell _ _ _ _ (by simpa using h1), Below.heap_setCell _ _ _ _ (by simpa using h1), Below.heap_setCell _ _ _ _ (by simpa using h1), Below.heap_setCell _ _ _ _ (by simpa using h1)]) h

set_option maxRecDepth 100000 in
set_option maxHeartbeats 4000000 in
theorem refList_one (l : List V) (B : Nat → Prop) (w : World) (sa : Value) (b : Nat) (hB : Under B w.heap.size) (hb : w.heap[b]? = some (.cells #[sa] 22 (0, 0))) (ha : RepLG B w l sa) (hl1 : l.length ≤ 100) :
    Calls Tryd.prog 26 #[.slice (some ⟨b, 0, none⟩) 1 1] w (JoinPost B l w) := by
  have hlt : b < w.heap.size := (Array.getElem?_eq_some_iff.1 hb).1
  have HA := Lib.hid ha
  obtain ⟨aa, ab, ao, ac, rfl, -⟩ := ha
  have HB := Lib.hid hb
  clear hb
  go_enter Tryd.func26, Tryd.ntmps26
  go_wp2_with fail
  have k1 := boxed_new w (.int .i64 0) (.int .i64 0) (.string ⟨#[]⟩) (.slice none 0 0)
  have b1 := stands_alloc w (.cells #[.int .i64 0, .int .i64 0, .string ⟨#[]⟩, .slice none 0 0] 24)
  have s1 := World.size_alloc w (.cells #[.int .i64 0, .int .i64 0, .string ⟨#[]⟩, .slice none 0 0] 24)
  generalize w.alloc (.cells #[.int .i64 0, .int .i64 0, .string ⟨#[]⟩, .slice none 0 0] 24) = w1 at *
  have v2 := boxed_new w1 (.int .i64 4) (.int .i64 0) (.string ⟨#[]⟩) (.slice none 0 0)
  have b2 := stands_alloc w1 (.cells #[.int .i64 4, .int .i64 0, .string ⟨#[]⟩, .slice none 0 0] 24)
  have s2 := World.size_alloc w1 (.cells #[.int .i64 4, .int .i64 0, .string ⟨#[]⟩, .slice none 0 0] 24)
  generalize w1.alloc (.cells #[.int .i64 4, .int .i64 0, .string ⟨#[]⟩, .slice none 0 0] 24) = w2 at *
  rw [s1] at v2 s2
  have B2 := Below.step b1 b2
  have B0 := Lib.hid (Below.drew B2)
  have K0 := Lib.hid ((k1.on b2).on (Below.drew (Below.refl _ w2)))
  have V0 := Lib.hid (v2.on (Below.drew (Below.refl _ w2)))
  have HS0 : Hid (w.heap.size + 1 + 1 ≤ w2.drew.heap.size) := by show _ ≤ _; rw [show w2.drew.heap.size = w.heap.size + 1 + 1 from s2]; exact Nat.le_refl _
  have O0 := Lib.hid (OwnL.nil (fun b => B b) w2.drew (w.heap.size + 1 + 1))
  clear k1 b1 s1 v2 b2 s2 B2
  refine wp_loop_rounds 3 ?_
  have q0 := cell_of_block' (i := 0) ((B0.out.block b hlt).trans HB.out) _ rfl
  have p0 := V0.out.cells.2.2.2
  obtain ⟨a0, c0, v0, r0, o0, b0⟩ := join_run (B := B) (base := w.heap.size + 1 + 1) (w := w2.drew) (L := []) (M := l) (X := l) rfl O0.out (hB.up (by omega)) HS0.out (RepLG.on (fun _ h => h) (fun k hk => B0.out.block k (hB.lt k hk)) HA.out) (by first | omega | (simp; omega) | (rw [HXL.out]; omega))
  have VV0 : Hid (Boxed v0 (w.heap.size + 1) (.int .i64 4) (.int .i64 0) (.string ⟨#[]⟩) (.slice none 0 0)) := (b0.block _ (by omega)).trans V0.out
  have BB0 := Lib.hid (B0.out.trans (b0.mono (by omega)))
  have KK0 : Hid (Boxed v0 w.heap.size (.int .i64 0) (.int .i64 0) (.string ⟨#[]⟩) (.slice none 0 0)) := (b0.block _ (by omega)).trans K0.out
  have OO0 := Lib.hid o0
  have R0 := Lib.hid r0
  have SS0 : Hid (w.heap.size + 1 + 1 ≤ v0.heap.size) := Nat.le_trans HS0.out b0.size
  have z0 := frozen_of_row v0 _ 3 _ _ VV0.out
  have pp0 := VV0.out.cells.2.2.2
  clear b0 o0 r0 B0 K0 V0 O0 HS0
  skip
  rw [rounds_succ]
  go_wp2_with fail
  go_region_law (first | (refine step_append_by rfl _ _ _ rfl rfl rfl R0.out ?_))
  all_goals
    clear q0 p0 R0 z0 pp0

    have V1 : Boxed (v0.setCell ⟨w.heap.size + 1, 3, none⟩ (.slice a0 (l).length c0)) (w.heap.size + 1) (.int .i64 4) (.int .i64 0) (.string ⟨#[]⟩) (.slice a0 (l).length c0) := heap_setCell_same _ _ _ _ _ _ VV0.out
    have K1 : Boxed (v0.setCell ⟨w.heap.size + 1, 3, none⟩ (.slice a0 (l).length c0)) w.heap.size (.int .i64 0) (.int .i64 0) (.string ⟨#[]⟩) (.slice none 0 0) := (Below.heap_setCell _ _ _ _ (by simp)).trans KK0.out
    have B1 := BB0.out.setCell (p := ⟨w.heap.size + 1, 3, none⟩) (by simp) (.slice a0 (l).length c0)
    have O1 := own_far OO0.out (hB.up (by omega)) (p := ⟨w.heap.size + 1, 3, none⟩) (hB.up (by simp)) (by simp) (.slice a0 (l).length c0)
    have HS1 : Hid (w.heap.size + 1 + 1 ≤ (v0.setCell ⟨w.heap.size + 1, 3, none⟩ (.slice a0 (l).length c0)).heap.size) := by show _ ≤ _; rw [World.size_setCell]; exact SS0.out
    clear VV0 BB0 KK0 OO0 SS0
    generalize v0.setCell ⟨w.heap.size + 1, 3, none⟩ (.slice a0 (l).length c0) = w3 at *

    replace V1 := Lib.hid V1; replace K1 := Lib.hid K1; replace B1 := Lib.hid B1; replace O1 := Lib.hid O1

    obtain ⟨y0, y1, y2, y3⟩ := V1.out.cells
    go_wp2_with fail
    rw [rounds_succ]
    go_wp2_with fail
    have HR := Lib.hid (OwnL.rep O1.out (S' := fun k => k < w3.heap.size) (fun k hk => by have := HS1.out; have := hB.lt k hk; omega) (fun g h1 h2 => h2) (by first | omega | (simp; omega) | (rw [HXL.out]; omega)))
    have HR2 := Lib.hid (OwnL.rep O1.out (S' := fun k => B k ∨ (w.heap.size < k ∧ k < w3.heap.size)) (fun k hk => .inl hk) (fun g h1 h2 => .inr ⟨by omega, h2⟩) (by first | omega | (simp; omega) | (rw [HXL.out]; omega)))
    refine (made_any (listV l) w3.heap.size _ _ _ _ _ (Nat.le_refl _) (rep_list HR.out)).mono ?_
    rintro e wz ⟨rfl, bz⟩
    have BZ := Lib.hid (B1.out.trans (bz.mono (by have := HS1.out; omega)))
    have KZ := Lib.hid (K1.out.on bz)
    have HZS : Hid (w.heap.size < wz.heap.size) := by show _ < _; have := HS1.out; have := bz.size; omega
    obtain ⟨t0, t1, t2, t3⟩ := KZ.out.cells
    have z0 := frozen_of_row _ _ 0 _ _ KZ.out
    have z1 := frozen_of_row _ _ 1 _ _ KZ.out
    have z2 := frozen_of_row _ _ 2 _ _ KZ.out
    have z3 := frozen_of_row _ _ 3 _ _ KZ.out
    have HGE := Lib.hid (RepLG.on (S' := fun k => B k ∨ (w.heap.size < k ∧ k < wz.heap.size)) (fun k hk => hk.imp id (fun h => ⟨h.1, Nat.lt_of_lt_of_le h.2 bz.size⟩)) (fun k hk => bz.block k (by have := HS1.out; rcases hk with h | h; (have := hB.lt k h; omega); omega)) HR2.out)
    clear bz y0 y1 y2 y3 V1 K1 B1 O1 HR HR2
    cases hr : rightV 4 (listV l) with
    | false =>
      have HF : Hid (rightV 4 (listV l) = false) := hr
      clear hr
      rw [if_neg (by decide)]
      dsimp only [zeroCells]
      go_wp2_with fail
      refine bodyPost_ret (v := .tuple #[zeroCells, .bool false]) (by simp [results, zeroCells, Tryd.results26, go_sem, t0, t1, t2, t3]) rfl ?_
      refine ⟨a0, l.length, c0, by rw [HF.out]; rfl, join_past hB HZS.out HGE.out _ _ _ _, stored4 BZ.out w.heap.size (Nat.le_refl _) _ _ _ _⟩
    | true =>
      have HF : Hid (rightV 4 (listV l) = true) := hr
      clear hr
      rw [if_pos rfl]
      go_wp2_with fail
      refine bodyPost_ret (v := .tuple #[.agg #[.int .i64 4, .int .i64 0, .string ⟨#[]⟩, .slice a0 l.length c0], .bool true]) (by simp [results, Tryd.results26, go_sem, t0, t1, t2, t3]) rfl ?_
      refine ⟨a0, l.length, c0, by rw [HF.out]; rfl, join_past hB HZS.out HGE.out _ _ _ _, stored4 BZ.out w.heap.size (Nat.le_refl _) _ _ _ _⟩

set_option maxRecDepth 100000 in
set_option maxHeartbeats 4000000 in
theorem refList_two (l m X : List V) (hX : X = l ++ m) (B : Nat → Prop) (w : World) (sa sb : Value) (b : Nat) (hB : Under B w.heap.size) (hb : w.heap[b]? = some (.cells #[sa, sb] 22 (0, 0))) (ha : RepLG B w l sa) (hm : RepLG B w m sb) (hl1 : l.length ≤ 100) (hm1 : m.length ≤ 100) :
    Calls Tryd.prog 26 #[.slice (some ⟨b, 0, none⟩) 2 2] w (JoinPost B X w) := by
  have hlt : b < w.heap.size := (Array.getElem?_eq_some_iff.1 hb).1
  have HA := Lib.hid ha; have HM := Lib.hid hm
  obtain ⟨aa, ab, ao, ac, rfl, -⟩ := ha
  obtain ⟨ma, mb, mo, mc, rfl, -⟩ := hm
  have HB := Lib.hid hb
  clear hb
  have HXL : Hid (X.length = l.length + m.length) := by show _ = _; rw [hX, List.length_append]
  have HXX := Lib.hid hX
  clear hX
  go_enter Tryd.func26, Tryd.ntmps26
  go_wp2_with fail
  have k1 := boxed_new w (.int .i64 0) (.int .i64 0) (.string ⟨#[]⟩) (.slice none 0 0)
  have b1 := stands_alloc w (.cells #[.int .i64 0, .int .i64 0, .string ⟨#[]⟩, .slice none 0 0] 24)
  have s1 := World.size_alloc w (.cells #[.int .i64 0, .int .i64 0, .string ⟨#[]⟩, .slice none 0 0] 24)
  generalize w.alloc (.cells #[.int .i64 0, .int .i64 0, .string ⟨#[]⟩, .slice none 0 0] 24) = w1 at *
  have v2 := boxed_new w1 (.int .i64 4) (.int .i64 0) (.string ⟨#[]⟩) (.slice none 0 0)
  have b2 := stands_alloc w1 (.cells #[.int .i64 4, .int .i64 0, .string ⟨#[]⟩, .slice none 0 0] 24)
  have s2 := World.size_alloc w1 (.cells #[.int .i64 4, .int .i64 0, .string ⟨#[]⟩, .slice none 0 0] 24)
  generalize w1.alloc (.cells #[.int .i64 4, .int .i64 0, .string ⟨#[]⟩, .slice none 0 0] 24) = w2 at *
  rw [s1] at v2 s2
  have B2 := Below.step b1 b2
  have B0 := Lib.hid (Below.drew B2)
  have K0 := Lib.hid ((k1.on b2).on (Below.drew (Below.refl _ w2)))
  have V0 := Lib.hid (v2.on (Below.drew (Below.refl _ w2)))
  have HS0 : Hid (w.heap.size + 1 + 1 ≤ w2.drew.heap.size) := by show _ ≤ _; rw [show w2.drew.heap.size = w.heap.size + 1 + 1 from s2]; exact Nat.le_refl _
  have O0 := Lib.hid (OwnL.nil (fun b => B b) w2.drew (w.heap.size + 1 + 1))
  clear k1 b1 s1 v2 b2 s2 B2
  refine wp_loop_rounds 3 ?_
  have q0 := cell_of_block' (i := 0) ((B0.out.block b hlt).trans HB.out) _ rfl
  have p0 := V0.out.cells.2.2.2
  obtain ⟨a0, c0, v0, r0, o0, b0⟩ := join_run (B := B) (base := w.heap.size + 1 + 1) (w := w2.drew) (L := []) (M := l) (X := l) rfl O0.out (hB.up (by omega)) HS0.out (RepLG.on (fun _ h => h) (fun k hk => B0.out.block k (hB.lt k hk)) HA.out) (by first | omega | (simp; omega) | (rw [HXL.out]; omega))
  have VV0 : Hid (Boxed v0 (w.heap.size + 1) (.int .i64 4) (.int .i64 0) (.string ⟨#[]⟩) (.slice none 0 0)) := (b0.block _ (by omega)).trans V0.out
  have BB0 := Lib.hid (B0.out.trans (b0.mono (by omega)))
  have KK0 : Hid (Boxed v0 w.heap.size (.int .i64 0) (.int .i64 0) (.string ⟨#[]⟩) (.slice none 0 0)) := (b0.block _ (by omega)).trans K0.out
  have OO0 := Lib.hid o0
  have R0 := Lib.hid r0
  have SS0 : Hid (w.heap.size + 1 + 1 ≤ v0.heap.size) := Nat.le_trans HS0.out b0.size
  have z0 := frozen_of_row v0 _ 3 _ _ VV0.out
  have pp0 := VV0.out.cells.2.2.2
  clear b0 o0 r0 B0 K0 V0 O0 HS0
  skip
  rw [rounds_succ]
  go_wp2_with fail
  go_region_law (first | (refine step_append_by rfl _ _ _ rfl rfl rfl R0.out ?_))
  all_goals
    clear q0 p0 R0 z0 pp0

    have V1 : Boxed (v0.setCell ⟨w.heap.size + 1, 3, none⟩ (.slice a0 (l).length c0)) (w.heap.size + 1) (.int .i64 4) (.int .i64 0) (.string ⟨#[]⟩) (.slice a0 (l).length c0) := heap_setCell_same _ _ _ _ _ _ VV0.out
    have K1 : Boxed (v0.setCell ⟨w.heap.size + 1, 3, none⟩ (.slice a0 (l).length c0)) w.heap.size (.int .i64 0) (.int .i64 0) (.string ⟨#[]⟩) (.slice none 0 0) := (Below.heap_setCell _ _ _ _ (by simp)).trans KK0.out
    have B1 := BB0.out.setCell (p := ⟨w.heap.size + 1, 3, none⟩) (by simp) (.slice a0 (l).length c0)
    have O1 := own_far OO0.out (hB.up (by omega)) (p := ⟨w.heap.size + 1, 3, none⟩) (hB.up (by simp)) (by simp) (.slice a0 (l).length c0)
    have HS1 : Hid (w.heap.size + 1 + 1 ≤ (v0.setCell ⟨w.heap.size + 1, 3, none⟩ (.slice a0 (l).length c0)).heap.size) := by show _ ≤ _; rw [World.size_setCell]; exact SS0.out
    clear VV0 BB0 KK0 OO0 SS0
    generalize v0.setCell ⟨w.heap.size + 1, 3, none⟩ (.slice a0 (l).length c0) = w3 at *

    replace V1 := Lib.hid (V1.on (Below.drew (Below.refl _ w3)))
    replace K1 := Lib.hid (K1.on (Below.drew (Below.refl _ w3)))
    replace B1 := Lib.hid (Below.drew B1)
    replace O1 := Lib.hid (O1.stands (S' := fun b => B b) (fun k hk => ⟨hk, by have := HS1.out; have := hB.lt k hk; omega⟩) (Below.drew (Below.refl _ w3)))
    replace HS1 : Hid (w.heap.size + 1 + 1 ≤ w3.drew.heap.size) := HS1

    have q1 := cell_of_block' (i := 1) ((B1.out.block b hlt).trans HB.out) _ rfl
    have p1 := V1.out.cells.2.2.2
    obtain ⟨a1, c1, v1, r1, o1, b1⟩ := join_run (B := B) (base := w.heap.size + 1 + 1) (w := w3.drew) (L := l) (M := m) (X := X) HXX.out O1.out (hB.up (by omega)) HS1.out (RepLG.on (fun _ h => h) (fun k hk => B1.out.block k (hB.lt k hk)) HM.out) (by first | omega | (simp; omega) | (rw [HXL.out]; omega))
    have VV1 : Hid (Boxed v1 (w.heap.size + 1) (.int .i64 4) (.int .i64 0) (.string ⟨#[]⟩) (.slice a0 (l).length c0)) := (b1.block _ (by omega)).trans V1.out
    have BB1 := Lib.hid (B1.out.trans (b1.mono (by omega)))
    have KK1 : Hid (Boxed v1 w.heap.size (.int .i64 0) (.int .i64 0) (.string ⟨#[]⟩) (.slice none 0 0)) := (b1.block _ (by omega)).trans K1.out
    have OO1 := Lib.hid o1
    have R1 := Lib.hid r1
    have SS1 : Hid (w.heap.size + 1 + 1 ≤ v1.heap.size) := Nat.le_trans HS1.out b1.size
    have z1 := frozen_of_row v1 _ 3 _ _ VV1.out
    have pp1 := VV1.out.cells.2.2.2
    clear b1 o1 r1 B1 K1 V1 O1 HS1
    go_wp2_with fail
    rw [rounds_succ]
    go_wp2_with fail
    go_region_law (first | (refine step_append_by rfl _ _ _ rfl rfl rfl R1.out ?_))
    all_goals
      clear q1 p1 R1 z1 pp1

      have V2 : Boxed (v1.setCell ⟨w.heap.size + 1, 3, none⟩ (.slice a1 (X).length c1)) (w.heap.size + 1) (.int .i64 4) (.int .i64 0) (.string ⟨#[]⟩) (.slice a1 (X).length c1) := heap_setCell_same _ _ _ _ _ _ VV1.out
      have K2 : Boxed (v1.setCell ⟨w.heap.size + 1, 3, none⟩ (.slice a1 (X).length c1)) w.heap.size (.int .i64 0) (.int .i64 0) (.string ⟨#[]⟩) (.slice none 0 0) := (Below.heap_setCell _ _ _ _ (by simp)).trans KK1.out
      have B2 := BB1.out.setCell (p := ⟨w.heap.size + 1, 3, none⟩) (by simp) (.slice a1 (X).length c1)
      have O2 := own_far OO1.out (hB.up (by omega)) (p := ⟨w.heap.size + 1, 3, none⟩) (hB.up (by simp)) (by simp) (.slice a1 (X).length c1)
      have HS2 : Hid (w.heap.size + 1 + 1 ≤ (v1.setCell ⟨w.heap.size + 1, 3, none⟩ (.slice a1 (X).length c1)).heap.size) := by show _ ≤ _; rw [World.size_setCell]; exact SS1.out
      clear VV1 BB1 KK1 OO1 SS1
      generalize v1.setCell ⟨w.heap.size + 1, 3, none⟩ (.slice a1 (X).length c1) = w4 at *

      replace V2 := Lib.hid V2; replace K2 := Lib.hid K2; replace B2 := Lib.hid B2; replace O2 := Lib.hid O2

      obtain ⟨y0, y1, y2, y3⟩ := V2.out.cells
      go_wp2_with fail
      rw [rounds_succ]
      go_wp2_with fail
      have HR := Lib.hid (OwnL.rep O2.out (S' := fun k => k < w4.heap.size) (fun k hk => by have := HS2.out; have := hB.lt k hk; omega) (fun g h1 h2 => h2) (by first | omega | (simp; omega) | (rw [HXL.out]; omega)))
      have HR2 := Lib.hid (OwnL.rep O2.out (S' := fun k => B k ∨ (w.heap.size < k ∧ k < w4.heap.size)) (fun k hk => .inl hk) (fun g h1 h2 => .inr ⟨by omega, h2⟩) (by first | omega | (simp; omega) | (rw [HXL.out]; omega)))
      refine (made_any (listV X) w4.heap.size _ _ _ _ _ (Nat.le_refl _) (rep_list HR.out)).mono ?_
      rintro e wz ⟨rfl, bz⟩
      have BZ := Lib.hid (B2.out.trans (bz.mono (by have := HS2.out; omega)))
      have KZ := Lib.hid (K2.out.on bz)
      have HZS : Hid (w.heap.size < wz.heap.size) := by show _ < _; have := HS2.out; have := bz.size; omega
      obtain ⟨t0, t1, t2, t3⟩ := KZ.out.cells
      have z0 := frozen_of_row _ _ 0 _ _ KZ.out
      have z1 := frozen_of_row _ _ 1 _ _ KZ.out
      have z2 := frozen_of_row _ _ 2 _ _ KZ.out
      have z3 := frozen_of_row _ _ 3 _ _ KZ.out
      have HGE := Lib.hid (RepLG.on (S' := fun k => B k ∨ (w.heap.size < k ∧ k < wz.heap.size)) (fun k hk => hk.imp id (fun h => ⟨h.1, Nat.lt_of_lt_of_le h.2 bz.size⟩)) (fun k hk => bz.block k (by have := HS2.out; rcases hk with h | h; (have := hB.lt k h; omega); omega)) HR2.out)
      clear bz y0 y1 y2 y3 V2 K2 B2 O2 HR HR2
      cases hr : rightV 4 (listV X) with
      | false =>
        have HF : Hid (rightV 4 (listV X) = false) := hr
        clear hr
        rw [if_neg (by decide)]
        dsimp only [zeroCells]
        go_wp2_with fail
        refine bodyPost_ret (v := .tuple #[zeroCells, .bool false]) (by simp [results, zeroCells, Tryd.results26, go_sem, t0, t1, t2, t3]) rfl ?_
        refine ⟨a1, X.length, c1, by rw [HF.out]; rfl, join_past hB HZS.out HGE.out _ _ _ _, stored4 BZ.out w.heap.size (Nat.le_refl _) _ _ _ _⟩
      | true =>
        have HF : Hid (rightV 4 (listV X) = true) := hr
        clear hr
        rw [if_pos rfl]
        go_wp2_with fail
        refine bodyPost_ret (v := .tuple #[.agg #[.int .i64 4, .int .i64 0, .string ⟨#[]⟩, .slice a1 X.length c1], .bool true]) (by simp [results, Tryd.results26, go_sem, t0, t1, t2, t3]) rfl ?_
        refine ⟨a1, X.length, c1, by rw [HF.out]; rfl, join_past hB HZS.out HGE.out _ _ _ _, stored4 BZ.out w.heap.size (Nat.le_refl _) _ _ _ _⟩

end Go.Proofs.YtaomlkglodeaoaaDoor
