/-
  What builtin's functions do: member.
-/
import Derived.Test.YtgkgnfafjbjbnaaDoorDoThree
import Derived.Test.YtgkgnfafjbjbnaaDoorCompare
namespace Go.Proofs.YtgkgnfafjbjbnaaDoor
open Go.RowKit

def memZ (l : List V) (y : V) : Int := if l.any (fun z => cmpV z y == 0) = true then 1 else 0
theorem memZ_nil (y : V) : memZ [] y = 0 := rfl
theorem memZ_hit {l : List V} {y : V} {k : Nat} (hk : k < l.length) (h : cmpV l[k] y = 0) : memZ (l.drop k) y = 1 := by
  rw [List.drop_eq_getElem_cons hk, memZ, if_pos (by rw [List.any_cons, h]; rfl)]
theorem memZ_miss {l : List V} {y : V} {k : Nat} (hk : k < l.length) (h : (cmpV l[k] y == 0) = false) : memZ (l.drop k) y = memZ (l.drop (k + 1)) y := by
  rw [List.drop_eq_getElem_cons hk, memZ, memZ, List.any_cons, h, Bool.false_or]
theorem memZ_range (l : List V) (y : V) : memZ l y = 0 ∨ memZ l y = 1 := by
  unfold memZ; split <;> simp

/-- Number's value stored as the result. -/
theorem num_post {W w : World} {n : Int} (hn : I64 n) (hw : Below W.heap.size W w) : DoPost (numV n) W (.returned (.agg #[.int .i64 1, .int .i64 n, .string ⟨#[]⟩, .slice none 0 0])) ((((w.setCell ⟨W.heap.size, 0, none⟩ (.int .i64 1)).setCell ⟨W.heap.size, 1, none⟩ (.int .i64 n)).setCell ⟨W.heap.size, 2, none⟩ (.string ⟨#[]⟩)).setCell ⟨W.heap.size, 3, none⟩ (.slice none 0 0)) :=
  ⟨_, _, _, _, rfl, rep_num hn, stored4 hw _ (Nat.le_refl _) _ _ _ _⟩

set_option maxRecDepth 100000 in
set_option maxHeartbeats 2000000 in
theorem member_any (x y : V) (B : Nat) (w : World) (a : Value) (hB : B ≤ w.heap.size) (ha : RepL B w [x, y] a) :
    Calls Tryd.prog 78 #[a] w (DoPost (numV (memZ x.list y)) w) := by
  have hb1 : Below w.heap.size w (w.alloc (.cells #[.int .i64 0, .int .i64 0, .string ⟨#[]⟩, .slice none 0 0] 24)) := (Below.refl _ w).alloc (Nat.le_refl _) _
  have HX := Lib.hid (boxed_new w (.int .i64 0) (.int .i64 0) (.string ⟨#[]⟩) (.slice none 0 0))
  have HB1 := Lib.hid hb1
  have HS := Lib.hid (World.size_alloc w (.cells #[.int .i64 0, .int .i64 0, .string ⟨#[]⟩, .slice none 0 0] 24))
  obtain ⟨aa, ab, ao, ac, rfl, hac, -⟩ := id ha
  have ha1 : RepL B (w.alloc (.cells #[.int .i64 0, .int .i64 0, .string ⟨#[]⟩, .slice none 0 0] 24)) [x, y] (.slice aa [x, y].length ac) := RepL.below (fun j hj => hb1.block j (by omega)) ha
  obtain ⟨-, hcap, b, o, fa, fc, rfl, hSb, g0, g1, g2, g3, g⟩ := RepLG.at ha1 0 (by simp)
  obtain ⟨-, -, b', o', fa', fc', e', -, e0, e1, e2, e3, g'⟩ := RepLG.at ha1 1 (by simp)
  cases e'
  simp only [List.getElem_cons_zero, List.getElem_cons_succ, Nat.zero_mul, Nat.one_mul, Nat.add_zero, List.length_cons, List.length_nil, Nat.zero_add, Nat.reduceAdd] at g0 g1 g2 g3 g e0 e1 e2 e3 g' hcap hac
  have GX := Lib.hid g.lst
  have GY := Lib.hid g'
  have E0 := Lib.hid e0; have E1 := Lib.hid e1; have E2 := Lib.hid e2; have E3 := Lib.hid e3
  have hlen : x.list.length * 56 ≤ 140737488355328 := by obtain ⟨_, _, _, _, _, _, h, _⟩ := g.lst; exact h
  have hm0 := memZ_range x.list y
  have HM0 := Lib.hid hm0
  clear ha ha1 g g' hb1 g0 g1 g2 hm0 e0 e1 e2 e3
  have HZ : Hid (memZ x.list y = memZ (x.list.drop 0) y) := rfl
  generalize x.list = l at *
  go_enter Tryd.func78, Tryd.ntmps78
  go_wp2_with fail
  generalize (w.alloc (.cells #[.int .i64 0, .int .i64 0, .string ⟨#[]⟩, .slice none 0 0] 24)) = w0 at *
  go_loopw [10] (fun i wr => ∃ k : Nat, k ≤ l.length ∧ i = .int .i64 k ∧ Hid (memZ l y = memZ (l.drop k) y) ∧ Below w0.heap.size w0 wr) (fun i _ => l.length - (intOf i).toNat)
  case atStart => exact ⟨0, Nat.zero_le _, rfl, HZ, Below.refl _ _⟩
  case round =>
    obtain ⟨k, hk1, rfl, hrec, hbel⟩ := hrel
    clear g3
    have hs := hbel.size
    by_cases hl : k < l.length
    · obtain ⟨-, -, lb, lo, la, lc, rfl, hSl, q0, q1, q2, q3, qq⟩ := RepLG.at (GX.out.on (w' := wr) (fun _ h => h) (fun j hj => hbel.block j (by have := HS.out; omega))) k hl
      have HQ := Lib.hid qq
      have HN := Lib.hid (fun h => memZ_hit (l := l) (y := y) hl h)
      have HN2 := Lib.hid (fun h => memZ_miss (l := l) (y := y) hl h)
      generalize l[k] = z at *
      clear qq
      go_wp2_with fail
      have Z1 := boxed_new wr (.int .i64 z.kind) (.int .i64 z.num) (.string z.text) (.slice la z.list.length lc)
      have b1 : Below wr.heap.size wr (wr.alloc (.cells #[.int .i64 z.kind, .int .i64 z.num, .string z.text, .slice la z.list.length lc] 24)) := (Below.refl _ wr).alloc (Nat.le_refl _) _
      generalize wr.alloc (.cells #[.int .i64 z.kind, .int .i64 z.num, .string z.text, .slice la z.list.length lc] 24) = w4 at *
      have B4 := Lib.hid (Below.step hbel b1)
      have HQ4 := Lib.hid (HQ.out.on (w' := w4) (fun _ h => h) (fun j hj => b1.block j (by have := HS.out; omega)))
      have GY4 := Lib.hid (GY.out.on (w' := w4) (fun _ h => h) (fun j hj => B4.out.block j (by have := HS.out; omega)))
      obtain ⟨p0, p1, p2, p3⟩ := Z1.cells
      have e0 := (B4.out.cell (p := ⟨b, o + 4, none⟩) (by have := HS.out; simp; omega)).trans E0.out
      have e1 := (B4.out.cell (p := ⟨b, o + 4 + 1, none⟩) (by have := HS.out; simp; omega)).trans E1.out
      have e2 := (B4.out.cell (p := ⟨b, o + 4 + 2, none⟩) (by have := HS.out; simp; omega)).trans E2.out
      have e3 := (B4.out.cell (p := ⟨b, o + 4 + 3, none⟩) (by have := HS.out; simp; omega)).trans E3.out
      clear q0 q1 q2 q3 Z1 b1
      go_still_tail 4, (by kernel_rfl)
      change wpList _ _ _ _ _ w4.drew
      have hb5 : Below w4.heap.size w4 w4.drew := Below.drew (Below.refl _ _)
      have B5 := Lib.hid (Below.step B4.out hb5)
      have HQ5 := Lib.hid (HQ4.out.on (w := w4) (w' := w4.drew) (fun _ h => h) (fun j hj => rfl))
      have GY5 := Lib.hid (GY4.out.on (w := w4) (w' := w4.drew) (fun _ h => h) (fun j hj => rfl))
      clear p0 p1 p2 p3 e0 e1 e2 e3 hb5
      generalize w4.drew = w5 at *
      go_wp2_with fail
      refine (cmp_any z y B _ _ _ _ _ _ _ _ _ (by have := HS.out; have := B5.out.size; omega) HQ5.out GY5.out).mono ?_
      rintro e w6 ⟨rfl, hb6⟩
      have B6 := Lib.hid (Below.step B5.out hb6)
      cases hc : (cmpV z y == 0) with
      | true =>
        have hc0 : cmpV z y = 0 := by simpa using hc
        have HF : Hid (memZ l y = 1) := by show _ = _; rw [hrec.out, HN.out hc0]
        rw [hc0]
        clear hc hc0
        go_wp2_with fail
        refine (number_any _ _).mono ?_
        rintro e w7 ⟨rfl, hb7⟩
        have B7 := Lib.hid (Below.step B6.out hb7)
        have X7 := HX.out.on B7.out
        obtain ⟨r0, r1, r2, r3⟩ := X7.cells
        have z0 := frozen_of_row w7 _ 0 _ _ X7
        have z1 := frozen_of_row w7 _ 1 _ _ X7
        have z2 := frozen_of_row w7 _ 2 _ _ X7
        have z3 := frozen_of_row w7 _ 3 _ _ X7
        clear X7
        go_wp2_with fail
        refine bodyPost_ret (v := .agg #[.int .i64 1, .int .i64 1, .string ⟨#[]⟩, .slice none 0 0]) (by simp [results, Tryd.results78, go_sem, r0, r1, r2, r3]) rfl ?_
        rw [HF.out]
        exact num_post ⟨by omega, by omega⟩ (HB1.out.trans (B7.out.mono (by have := HS.out; omega)))
      | false =>
        have HF : Hid (memZ l y = memZ (l.drop (k + 1)) y) := by show _ = _; rw [hrec.out, HN2.out hc]
        go_wp2_with fail
        go_roundw
        case rel => exact ⟨k + 1, by omega, by go_num, HF, B6.out⟩
        case measure => simp [intOf]; omega
    · have HF : Hid (memZ l y = 0) := by show _ = _; rw [hrec.out, List.drop_of_length_le (by omega), memZ_nil]
      go_wp2_with fail
      refine (number_any _ _).mono ?_
      rintro e w7 ⟨rfl, hb7⟩
      have B7 := Lib.hid (Below.step hbel hb7)
      have X7 := HX.out.on B7.out
      obtain ⟨r0, r1, r2, r3⟩ := X7.cells
      have z0 := frozen_of_row w7 _ 0 _ _ X7
      have z1 := frozen_of_row w7 _ 1 _ _ X7
      have z2 := frozen_of_row w7 _ 2 _ _ X7
      have z3 := frozen_of_row w7 _ 3 _ _ X7
      clear X7
      go_wp2_with fail
      refine bodyPost_ret (v := .agg #[.int .i64 1, .int .i64 0, .string ⟨#[]⟩, .slice none 0 0]) (by simp [results, Tryd.results78, go_sem, r0, r1, r2, r3]) rfl ?_
      rw [HF.out]
      exact num_post ⟨by omega, by omega⟩ (HB1.out.trans (B7.out.mono (by have := HS.out; omega)))

end Go.Proofs.YtgkgnfafjbjbnaaDoor
