/-
  value.Compare and what it calls, as contracts.
-/
import Derived.Test.YtaomlkglodeaoaaDoorW01
import Derived.Test.YtaomlkglodeaoaaDoorW03
import Derived.WalkSpells
import Derived.WalkLawsBesides
import Derived.StillTailTactics
import Derived.Deep.RegionLaw
import Derived.BigQuiet
namespace Go.Proofs.YtaomlkglodeaoaaDoor
open Go.RowKit

def cmpS (a b : ByteArray) : Int := if Op.bytesLess a.toList b.toList = true then -1 else if (a.toList == b.toList) = true then 0 else 1

theorem isNaN_str (s : ByteArray) (w : World) : Calls Tryd.prog 68 #[.string s] w fun e w' => e = .returned (.bool false) ∧ w = w' := by
  go_enter Tryd.func68, Tryd.ntmps68
  go_wp2
  go_ret
  exact ⟨by simp, rfl⟩

theorem ret_int {k : IntKind} {a b : Int} (h : a = b) : Ending.returned (.int k a) = .returned (.int k b) := by rw [h]

set_option maxRecDepth 100000 in
set_option maxHeartbeats 400000 in
theorem cmp_str (a b : ByteArray) (w : World) : Calls Tryd.prog 51 #[.string a, .string b] w fun e w' => e = .returned (.int .i64 (cmpS a b)) ∧ w = w' := by
  go_enter Tryd.func51, Tryd.ntmps51
  go_wp2_with (go_at_call 68; refine (isNaN_str _ _).mono ?_; rintro e w' ⟨rfl, rfl⟩)
  all_goals go_ret
  · exact ⟨ret_int (by unfold cmpS; rw [if_pos ‹_›]), rfl⟩
  · exact ⟨ret_int (by unfold cmpS; rw [if_neg (by simp [*]), if_neg (by simp_all)]), rfl⟩
  · exact ⟨ret_int (by unfold cmpS; rw [if_neg (by simp [*]), if_pos (by simp_all)]), rfl⟩

mutual
def cmpV : V → V → Int
  | .mk k n s l, .mk k' n' s' l' =>
    if k ≠ k' then Lib.compareInt k k' else if k = 1 then Lib.compareInt n n' else if k = 2 ∨ k = 3 then cmpS s s' else if k = 4 then cmpL l l' else 0
def cmpL : List V → List V → Int
  | [], [] => 0
  | [], _ :: _ => -1
  | _ :: _, [] => 1
  | x :: l, y :: m => if cmpV x y ≠ 0 then cmpV x y else cmpL l m
end

theorem cmpL_at {l m : List V} {k : Nat} (hl : k < l.length) (hm : k < m.length) : cmpL (l.drop k) (m.drop k) = if cmpV l[k] m[k] ≠ 0 then cmpV l[k] m[k] else cmpL (l.drop (k + 1)) (m.drop (k + 1)) := by
  rw [List.drop_eq_getElem_cons hl, List.drop_eq_getElem_cons hm, cmpL]
theorem cmpL_end {l m : List V} {k : Nat} (hl : k ≤ l.length) (hm : k ≤ m.length) (h : ¬ (k < l.length ∧ k < m.length)) : cmpL (l.drop k) (m.drop k) = Lib.compareInt l.length m.length := by
  unfold Lib.compareInt
  by_cases e1 : k < l.length
  · have e2 : k = m.length := by omega
    rw [List.drop_of_length_le (l := m) (by omega), List.drop_eq_getElem_cons e1, cmpL, if_neg (by omega), if_pos (by omega)]
  · rw [List.drop_of_length_le (l := l) (by omega)]
    by_cases e2 : k < m.length
    · rw [List.drop_eq_getElem_cons e2, cmpL, if_pos (by omega)]
    · rw [List.drop_of_length_le (l := m) (by omega), cmpL, if_neg (by omega), if_neg (by omega)]

/-- What 'Compare' does. -/
def CmpAt (x y : V) : Prop := ∀ (B : Nat) (w : World) (c0 c1 c2 c3 d0 d1 d2 d3 : Value), B ≤ w.heap.size → RepV B w x c0 c1 c2 c3 → RepV B w y d0 d1 d2 d3 →
  Calls Tryd.prog 33 #[.agg #[c0, c1, c2, c3], .agg #[d0, d1, d2, d3]] w fun e w' => e = .returned (.int .i64 (cmpV x y)) ∧ Below w.heap.size w w'

set_option maxRecDepth 100000 in
set_option maxHeartbeats 400000 in
theorem cmpLists_of (l m : List V) (hC : ∀ x, x ∈ l → ∀ y, CmpAt x y) (B : Nat) (w : World) (a b : Value) (hB : B ≤ w.heap.size) (ha : RepL B w l a) (hb : RepL B w m b) :
    Calls Tryd.prog 52 #[a, b] w fun e w' => e = .returned (.int .i64 (cmpL l m)) ∧ Below w.heap.size w w' := by
  obtain ⟨aa, ab, ao, ac, rfl, hal, hac, haa, hab, hax⟩ := ha
  obtain ⟨ba, bb, bo, bc, rfl, hbl, hbc, hba, hbb, hbx⟩ := hb
  have HC := Lib.hid hC; clear hC
  have HAX := Lib.hid hax; clear hax
  have HBX := Lib.hid hbx; clear hbx
  have HAA := Lib.hid haa; clear haa
  have HBA := Lib.hid hba; clear hba
  go_enter Tryd.func52, Tryd.ntmps52
  go_wp2_with fail
  go_loopw [12] (fun i wr => ∃ k : Nat, k ≤ l.length ∧ k ≤ m.length ∧ i = .int .i64 k ∧ Hid (cmpL l m = cmpL (l.drop k) (m.drop k)) ∧ Below w.heap.size w wr) (fun i _ => min l.length m.length - (intOf i).toNat)
  case atStart => exact ⟨0, Nat.zero_le _, Nat.zero_le _, rfl, rfl, Below.refl _ _⟩
  case round =>
    obtain ⟨k, hk1, hk2, rfl, hrec, hbel⟩ := hrel
    by_cases hlt : k < l.length ∧ k < m.length
    · obtain ⟨hl, hm⟩ := hlt
      obtain ⟨x0, x1, x2, x3, g0, g1, g2, g3, gr⟩ := HAX.out k hl
      obtain ⟨y0, y1, y2, y3, e0, e1, e2, e3, er⟩ := HBX.out k hm
      have hab' : ab < B := hab (by omega)
      have hbb' : bb < B := hbb (by omega)
      obtain rfl := HAA.out (by omega)
      obtain rfl := HBA.out (by omega)
      rw [← hbel.cell (by simp; omega)] at g0 g1 g2 g3 e0 e1 e2 e3
      go_wp2_with fail
      go_still_tail 8, (by kernel_rfl)
      change wpList _ _ _ _ _ wr.drew
      have hbel2 : Below w.heap.size w wr.drew := hbel.drew
      clear g0 g1 g2 g3 e0 e1 e2 e3 hbel
      generalize wr.drew = w2 at *
      have hs := hbel2.size
      go_wp2_with fail
      refine (HC.out _ (List.getElem_mem hl) _ B w2 _ _ _ _ _ _ _ _ (by omega) (RepV.below (fun j hj => hbel2.block j (by omega)) _ gr) (RepV.below (fun j hj => hbel2.block j (by omega)) _ er)).mono ?_
      rintro e w3 ⟨rfl, hbel3⟩
      have hbel4 : Below w.heap.size w w3 := hbel2.trans (hbel3.mono hs)
      have hcons := cmpL_at hl hm
      generalize cmpV l[k] m[k] = c at *
      have HN := Lib.hid hcons; clear hcons
      by_cases hc : c = 0
      · have hc' : (c != 0) = false := by simp [hc]
        have HCZ := Lib.hid hc; clear hc
        go_wp2_with fail
        go_roundw
        case rel => exact ⟨k + 1, by omega, by omega, by go_num, by show _ = _; rw [hrec.out, HN.out, if_neg (by simp [HCZ.out])], hbel4⟩
        case measure => simp [intOf]; omega
      · have hc' : (c != 0) = true := by simp [hc]
        have HCZ := Lib.hid hc; clear hc
        go_wp2_with fail
        go_ret
        exact ⟨ret_int (by rw [hrec.out, HN.out, if_pos HCZ.out]), hbel4⟩
    · have hfin : cmpL l m = Lib.compareInt l.length m.length := by rw [hrec.out]; exact cmpL_end hk1 hk2 hlt
      have HF := Lib.hid hfin; clear hfin hrec
      have hmin : ¬ (k : Int) < min (l.length : Int) (m.length : Int) := by omega
      go_wp2_with fail
      refine (Tryd.cmp_Compare_int _ _ _).mono ?_
      rintro e w' ⟨rfl, rfl⟩
      go_wp2_with fail
      go_ret
      exact ⟨ret_int HF.out.symm, hbel⟩

theorem below2 (w : World) (o1 o2 : Obj) {w' : World} (h : Below ((w.alloc o1).alloc o2).heap.size ((w.alloc o1).alloc o2) w') : Below w.heap.size w w' :=
  (((Below.refl _ w).alloc (Nat.le_refl _) o1).alloc (by simp) o2).trans (h.mono (by simp; omega))

set_option maxRecDepth 100000 in
set_option maxHeartbeats 1000000 in
theorem cmp_any (x y : V) : CmpAt x y := by
  match x, y with
  | .mk k n s l, .mk k' n' s' l' =>
  have hC : ∀ z, z ∈ l → ∀ y, CmpAt z y := fun z hz y => cmp_any z y
  have HC := Lib.hid hC; clear hC
  intro B w c0 c1 c2 c3 d0 d1 d2 d3 hB hx hy
  rw [repV_mk] at hx hy
  obtain ⟨rfl, rfl, rfl, hk, hn, hs, hl⟩ := hx
  obtain ⟨rfl, rfl, rfl, hk', hn', hs', hl'⟩ := hy
  have HL := Lib.hid hl; clear hl
  have HL' := Lib.hid hl'; clear hl'
  have hbb : Below w.heap.size w ((w.alloc (.cells #[.int .i64 k, .int .i64 n, .string s, c3] 24)).alloc (.cells #[.int .i64 k', .int .i64 n', .string s', d3] 24)) :=
    ((Below.refl _ w).alloc (Nat.le_refl _) _).alloc (by simp) _
  by_cases e : k = k'
  · subst e
    by_cases e1 : k = 1
    · subst e1
      go_enter Tryd.func33, Tryd.ntmps33
      go_wp2_with fail
      refine (Tryd.cmp_Compare_int _ _ _).mono ?_
      rintro e w' ⟨rfl, rfl⟩
      go_wp2_with fail
      go_ret
      exact ⟨ret_int (by simp [cmpV]), hbb⟩
    · by_cases e2 : k = 2
      · subst e2
        go_enter Tryd.func33, Tryd.ntmps33
        go_wp2_with fail
        refine (cmp_str _ _ _).mono ?_
        rintro e w' ⟨rfl, rfl⟩
        go_wp2_with fail
        go_ret
        exact ⟨ret_int (by simp [cmpV]), hbb⟩
      · by_cases e3 : k = 3
        · subst e3
          go_enter Tryd.func33, Tryd.ntmps33
          go_wp2_with fail
          refine (cmp_str _ _ _).mono ?_
          rintro e w' ⟨rfl, rfl⟩
          go_wp2_with fail
          go_ret
          exact ⟨ret_int (by simp [cmpV]), hbb⟩
        · by_cases e4 : k = 4
          · subst e4
            go_enter Tryd.func33, Tryd.ntmps33
            go_wp2_with fail
            refine (cmpLists_of l l' HC.out B _ _ _ (by simp; omega) (RepL.below (fun j hj => hbb.block j (by omega)) HL.out) (RepL.below (fun j hj => hbb.block j (by omega)) HL'.out)).mono ?_
            rintro e w' ⟨rfl, hb⟩
            have hb4 := below2 _ _ _ hb
            go_wp2_with fail
            go_ret
            exact ⟨ret_int (by simp [cmpV]), hb4⟩
          · have f1 : (k == 1) = false := by simp [e1]
            have f2 : (k == 2) = false := by simp [e2]
            have f3 : (k == 3) = false := by simp [e3]
            have f4 : (k == 4) = false := by simp [e4]
            have HF : Hid (cmpV (.mk k n s l) (.mk k n' s' l') = 0) := by show _ = _; simp [cmpV, e1, e2, e3, e4]
            clear e1 e2 e3 e4
            go_enter Tryd.func33, Tryd.ntmps33
            go_wp2_with fail
            go_ret
            exact ⟨ret_int HF.out.symm, hbb⟩
  · have f1 : (k != k') = true := by simp [e]
    have HF : Hid (cmpV (.mk k n s l) (.mk k' n' s' l') = Lib.compareInt k k') := by show _ = _; simp [cmpV, e]
    clear e
    go_enter Tryd.func33, Tryd.ntmps33
    go_wp2_with fail
    refine (Tryd.cmp_Compare_int _ _ _).mono ?_
    rintro e w' ⟨rfl, rfl⟩
    go_wp2_with fail
    go_ret
    exact ⟨ret_int HF.out.symm, hbb⟩
  termination_by SizeOf.sizeOf x
  decreasing_by
    have := List.sizeOf_lt_of_mem hz
    simp only [V.mk.sizeOf_spec]
    omega

end Go.Proofs.YtaomlkglodeaoaaDoor

/-
  What builtin's functions do: member.
-/
namespace Go.Proofs.YtaomlkglodeaoaaDoor
open Go.RowKit

def memZ (l : List V) (y : V) : Int := if l.any (fun z => cmpV z y == 0) = true then 1 else 0
theorem memZ_nil (y : V) : memZ [] y = 0 := rfl
theorem memZ_hit {l : List V} {y : V} {k : Nat} (hk : k < l.length) (h : cmpV l[k] y = 0) : memZ (l.drop k) y = 1 := by
  rw [List.drop_eq_getElem_cons hk, memZ, if_pos (by rw [List.any_cons, h]; rfl)]
theorem memZ_miss {l : List V} {y : V} {k : Nat} (hk : k < l.length) (h : (cmpV l[k] y == 0) = false) : memZ (l.drop k) y = memZ (l.drop (k + 1)) y := by
  rw [List.drop_eq_getElem_cons hk, memZ, memZ, List.any_cons, h, Bool.false_or]
theorem memZ_range (l : List V) (y : V) : memZ l y = 0 ∨ memZ l y = 1 := by
  unfold memZ; split <;> simp

/-- Number's value stored as the result. -/
theorem num_post {W w : World} {n : Int} (hn : I64 n) (hw : Below W.heap.size W w) : DoPost (numV n) W (.returned (.agg #[.int .i64 1, .int .i64 n, .string ⟨#[]⟩, .slice none 0 0])) ((((w.setCell ⟨W.heap.size, 0, none⟩ (.int .i64 1)).setCell ⟨W.heap.size, 1, none⟩ (.int .i64 n)).setCell ⟨W.heap.size, 2, none⟩ (.string ⟨#[]⟩)).setCell ⟨W.heap.size, 3, none⟩ (.slice none 0 0)) :=
  ⟨_, _, _, _, rfl, rep_num hn, stored4 hw _ (Nat.le_refl _) _ _ _ _⟩

set_option maxRecDepth 100000 in
set_option maxHeartbeats 2000000 in
theorem member_any (x y : V) (B : Nat) (w : World) (a : Value) (hB : B ≤ w.heap.size) (ha : RepL B w [x, y] a) :
    Calls Tryd.prog 41 #[a] w (DoPost (numV (memZ x.list y)) w) := by
  have hb1 : Below w.heap.size w (w.alloc (.cells #[.int .i64 0, .int .i64 0, .string ⟨#[]⟩, .slice none 0 0] 24)) := (Below.refl _ w).alloc (Nat.le_refl _) _
  have HX := Lib.hid (boxed_new w (.int .i64 0) (.int .i64 0) (.string ⟨#[]⟩) (.slice none 0 0))
  have HB1 := Lib.hid hb1
  have HS := Lib.hid (World.size_alloc w (.cells #[.int .i64 0, .int .i64 0, .string ⟨#[]⟩, .slice none 0 0] 24))
  obtain ⟨aa, ab, ao, ac, rfl, hac, -⟩ := id ha
  have ha1 : RepL B (w.alloc (.cells #[.int .i64 0, .int .i64 0, .string ⟨#[]⟩, .slice none 0 0] 24)) [x, y] (.slice aa [x, y].length ac) := RepL.below (fun j hj => hb1.block j (by omega)) ha
  obtain ⟨-, hcap, b, o, fa, fc, rfl, hSb, g0, g1, g2, g3, g⟩ := RepLG.at ha1 0 (by simp)
  obtain ⟨-, -, b', o', fa', fc', e', -, e0, e1, e2, e3, g'⟩ := RepLG.at ha1 1 (by simp)
  cases e'
  simp only [List.getElem_cons_zero, List.getElem_cons_succ, Nat.zero_mul, Nat.one_mul, Nat.add_zero, List.length_cons, List.length_nil, Nat.zero_add, Nat.reduceAdd] at g0 g1 g2 g3 g e0 e1 e2 e3 g' hcap hac
  have GX := Lib.hid g.lst
  have GY := Lib.hid g'
  have E0 := Lib.hid e0; have E1 := Lib.hid e1; have E2 := Lib.hid e2; have E3 := Lib.hid e3
  have hlen : x.list.length * 56 ≤ 140737488355328 := by obtain ⟨_, _, _, _, _, _, h, _⟩ := g.lst; exact h
  have hm0 := memZ_range x.list y
  have HM0 := Lib.hid hm0
  clear ha ha1 g g' hb1 g0 g1 g2 hm0 e0 e1 e2 e3
  have HZ : Hid (memZ x.list y = memZ (x.list.drop 0) y) := rfl
  generalize x.list = l at *
  go_enter Tryd.func41, Tryd.ntmps41
  go_wp2_with fail
  generalize (w.alloc (.cells #[.int .i64 0, .int .i64 0, .string ⟨#[]⟩, .slice none 0 0] 24)) = w0 at *
  go_loopw [10] (fun i wr => ∃ k : Nat, k ≤ l.length ∧ i = .int .i64 k ∧ Hid (memZ l y = memZ (l.drop k) y) ∧ Below w0.heap.size w0 wr) (fun i _ => l.length - (intOf i).toNat)
  case atStart => exact ⟨0, Nat.zero_le _, rfl, HZ, Below.refl _ _⟩
  case round =>
    obtain ⟨k, hk1, rfl, hrec, hbel⟩ := hrel
    clear g3
    have hs := hbel.size
    by_cases hl : k < l.length
    · obtain ⟨-, -, lb, lo, la, lc, rfl, hSl, q0, q1, q2, q3, qq⟩ := RepLG.at (GX.out.on (w' := wr) (fun _ h => h) (fun j hj => hbel.block j (by have := HS.out; omega))) k hl
      have HQ := Lib.hid qq
      have HN := Lib.hid (fun h => memZ_hit (l := l) (y := y) hl h)
      have HN2 := Lib.hid (fun h => memZ_miss (l := l) (y := y) hl h)
      generalize l[k] = z at *
      clear qq
      go_wp2_with fail
      have Z1 := boxed_new wr (.int .i64 z.kind) (.int .i64 z.num) (.string z.text) (.slice la z.list.length lc)
      have b1 : Below wr.heap.size wr (wr.alloc (.cells #[.int .i64 z.kind, .int .i64 z.num, .string z.text, .slice la z.list.length lc] 24)) := (Below.refl _ wr).alloc (Nat.le_refl _) _
      generalize wr.alloc (.cells #[.int .i64 z.kind, .int .i64 z.num, .string z.text, .slice la z.list.length lc] 24) = w4 at *
      have B4 := Lib.hid (Below.step hbel b1)
      have HQ4 := Lib.hid (HQ.out.on (w' := w4) (fun _ h => h) (fun j hj => b1.block j (by have := HS.out; omega)))
      have GY4 := Lib.hid (GY.out.on (w' := w4) (fun _ h => h) (fun j hj => B4.out.block j (by have := HS.out; omega)))
      obtain ⟨p0, p1, p2, p3⟩ := Z1.cells
      have e0 := (B4.out.cell (p := ⟨b, o + 4, none⟩) (by have := HS.out; simp; omega)).trans E0.out
      have e1 := (B4.out.cell (p := ⟨b, o + 4 + 1, none⟩) (by have := HS.out; simp; omega)).trans E1.out
      have e2 := (B4.out.cell (p := ⟨b, o + 4 + 2, none⟩) (by have := HS.out; simp; omega)).trans E2.out
      have e3 := (B4.out.cell (p := ⟨b, o + 4 + 3, none⟩) (by have := HS.out; simp; omega)).trans E3.out
      clear q0 q1 q2 q3 Z1 b1
      go_still_tail 4, (by kernel_rfl)
      change wpList _ _ _ _ _ w4.drew
      have hb5 : Below w4.heap.size w4 w4.drew := Below.drew (Below.refl _ _)
      have B5 := Lib.hid (Below.step B4.out hb5)
      have HQ5 := Lib.hid (HQ4.out.on (w := w4) (w' := w4.drew) (fun _ h => h) (fun j hj => rfl))
      have GY5 := Lib.hid (GY4.out.on (w := w4) (w' := w4.drew) (fun _ h => h) (fun j hj => rfl))
      clear p0 p1 p2 p3 e0 e1 e2 e3 hb5
      generalize w4.drew = w5 at *
      go_wp2_with fail
      refine (cmp_any z y B _ _ _ _ _ _ _ _ _ (by have := HS.out; have := B5.out.size; omega) HQ5.out GY5.out).mono ?_
      rintro e w6 ⟨rfl, hb6⟩
      have B6 := Lib.hid (Below.step B5.out hb6)
      cases hc : (cmpV z y == 0) with
      | true =>
        have hc0 : cmpV z y = 0 := by simpa using hc
        have HF : Hid (memZ l y = 1) := by show _ = _; rw [hrec.out, HN.out hc0]
        rw [hc0]
        clear hc hc0
        go_wp2_with fail
        refine (number_any _ _).mono ?_
        rintro e w7 ⟨rfl, hb7⟩
        have B7 := Lib.hid (Below.step B6.out hb7)
        have X7 := HX.out.on B7.out
        obtain ⟨r0, r1, r2, r3⟩ := X7.cells
        have z0 := frozen_of_row w7 _ 0 _ _ X7
        have z1 := frozen_of_row w7 _ 1 _ _ X7
        have z2 := frozen_of_row w7 _ 2 _ _ X7
        have z3 := frozen_of_row w7 _ 3 _ _ X7
        clear X7
        go_wp2_with fail
        refine bodyPost_ret (v := .agg #[.int .i64 1, .int .i64 1, .string ⟨#[]⟩, .slice none 0 0]) (by simp [results, Tryd.results41, go_sem, r0, r1, r2, r3]) rfl ?_
        rw [HF.out]
        exact num_post ⟨by omega, by omega⟩ (HB1.out.trans (B7.out.mono (by have := HS.out; omega)))
      | false =>
        have HF : Hid (memZ l y = memZ (l.drop (k + 1)) y) := by show _ = _; rw [hrec.out, HN2.out hc]
        go_wp2_with fail
        go_roundw
        case rel => exact ⟨k + 1, by omega, by go_num, HF, B6.out⟩
        case measure => simp [intOf]; omega
    · have HF : Hid (memZ l y = 0) := by show _ = _; rw [hrec.out, List.drop_of_length_le (by omega), memZ_nil]
      go_wp2_with fail
      refine (number_any _ _).mono ?_
      rintro e w7 ⟨rfl, hb7⟩
      have B7 := Lib.hid (Below.step hbel hb7)
      have X7 := HX.out.on B7.out
      obtain ⟨r0, r1, r2, r3⟩ := X7.cells
      have z0 := frozen_of_row w7 _ 0 _ _ X7
      have z1 := frozen_of_row w7 _ 1 _ _ X7
      have z2 := frozen_of_row w7 _ 2 _ _ X7
      have z3 := frozen_of_row w7 _ 3 _ _ X7
      clear X7
      go_wp2_with fail
      refine bodyPost_ret (v := .agg #[.int .i64 1, .int .i64 0, .string ⟨#[]⟩, .slice none 0 0]) (by simp [results, Tryd.results41, go_sem, r0, r1, r2, r3]) rfl ?_
      rw [HF.out]
      exact num_post ⟨by omega, by omega⟩ (HB1.out.trans (B7.out.mono (by have := HS.out; omega)))

end Go.Proofs.YtaomlkglodeaoaaDoor

/-
  slices.Reverse of a slice of values that the call itself has made.
-/
namespace Go.Proofs.YtaomlkglodeaoaaDoor
open Go.RowKit

/-- Behind k rounds. -/
def revTo (l : List V) (k : Nat) : List V := (List.finRange l.length).map fun i => if i.val < k ∨ l.length ≤ i.val + k then l[l.length - 1 - i.val]'(by have := i.isLt; omega) else l[i.val]
theorem revTo_length (l : List V) (k : Nat) : (revTo l k).length = l.length := by simp [revTo]
theorem revTo_get (l : List V) (k i : Nat) (h : i < (revTo l k).length) : (revTo l k)[i] = if i < k ∨ l.length ≤ i + k then l[l.length - 1 - i]'(by rw [revTo_length] at h; omega) else l[i]'(by rw [revTo_length] at h; exact h) := by
  simp [revTo]
theorem revTo_zero (l : List V) : revTo l 0 = l := by
  refine List.ext_getElem (revTo_length l 0) (fun i h1 h2 => ?_)
  rw [revTo_get, if_neg (by omega)]
theorem revTo_end (l : List V) (k : Nat) (hk : l.length ≤ 2 * k + 1) : revTo l k = l.reverse := by
  refine List.ext_getElem (by rw [revTo_length, List.length_reverse]) (fun i h1 h2 => ?_)
  rw [revTo_get, List.getElem_reverse]
  rw [revTo_length] at h1
  split
  · rfl
  · congr 1
    omega
theorem revTo_step (l : List V) (k : Nat) (hk : k < l.length) (_hk2 : k < l.length - 1 - k) : ((revTo l k).set k (l[l.length - 1 - k]'(by omega))).set (l.length - 1 - k) l[k] = revTo l (k + 1) := by
  refine List.ext_getElem (by simp [revTo_length]) (fun i h1 h2 => ?_)
  have hi : i < l.length := by rw [revTo_length] at h2; exact h2
  rw [List.getElem_set, List.getElem_set, revTo_get _ (k + 1)]
  by_cases e1 : l.length - 1 - k = i
  · subst e1
    rw [if_pos rfl, if_pos (by omega)]
    congr 1
    omega
  · rw [if_neg e1]
    by_cases e2 : k = i
    · subst e2
      rw [if_pos rfl, if_pos (by omega)]
    · rw [if_neg e2, revTo_get]
      by_cases e3 : i < k ∨ l.length ≤ i + k
      · rw [if_pos e3, if_pos (by omega)]
      · rw [if_neg e3, if_neg (by omega)]

theorem RepRow.put {S : Nat → Prop} {w : World} {l : List V} {cur : Array Value} (h : RepRow S w l cur) {k : Nat} (hk : k < l.length) {x : V} {x0 x1 x2 x3 : Value} (hx : RepG S w x x0 x1 x2 x3) (hsz : l.length * 4 ≤ cur.size) : RepRow S w (l.set k x) (put4 cur (k * 4) x0 x1 x2 x3) := by
  intro i hi
  rw [List.length_set] at hi
  by_cases e : k = i
  · subst e
    refine ⟨x0, x1, x2, x3, ?_, ?_, ?_, ?_, by rw [List.getElem_set, if_pos rfl]; exact hx⟩ <;> simp only [put4, Array.getElem?_setIfInBounds, Array.size_setIfInBounds]
    · rw [if_neg (by omega), if_neg (by omega), if_neg (by omega), if_pos trivial, if_pos (by omega)]
    · rw [if_neg (by omega), if_neg (by omega), if_pos trivial, if_pos (by omega)]
    · rw [if_neg (by omega), if_pos trivial, if_pos (by omega)]
    · rw [if_pos trivial, if_pos (by omega)]
  · obtain ⟨y0, y1, y2, y3, g0, g1, g2, g3, g⟩ := h i hi
    refine ⟨y0, y1, y2, y3, ?_, ?_, ?_, ?_, by rw [List.getElem_set, if_neg e]; exact g⟩ <;>
    · simp only [put4, Array.getElem?_setIfInBounds]
      rw [if_neg (by omega), if_neg (by omega), if_neg (by omega), if_neg (by omega)]
      assumption

/-- Behind k rounds: the row of block g. -/
def RevInv (S : Nat → Prop) (l : List V) (g cap k : Nat) (w wr : World) : Prop :=
  ∃ cur, wr.heap[g]? = some (.cells cur 24 (0, 0)) ∧ cur.size = cap * 4 ∧ RepRow S wr (revTo l k) cur ∧ w.grownBy wr (some g)

/-- Four stores of one element. -/
def set4 (w : World) (g o : Nat) (c0 c1 c2 c3 : Value) : World := (((w.setCell ⟨g, o, none⟩ c0).setCell ⟨g, o + 1, none⟩ c1).setCell ⟨g, o + 2, none⟩ c2).setCell ⟨g, o + 3, none⟩ c3
theorem set4_other (w : World) (g o : Nat) (c0 c1 c2 c3 : Value) (b : Nat) (h : b ≠ g) : (set4 w g o c0 c1 c2 c3).heap[b]? = w.heap[b]? := by
  unfold set4
  rw [Below.heap_setCell _ _ _ _ (by simpa using h), Below.heap_setCell _ _ _ _ (by simpa using h), Below.heap_setCell _ _ _ _ (by simpa using h), Below.heap_setCell _ _ _ _ (by simpa using h)]
theorem set4_same {w : World} {g : Nat} {cur : Array Value} {t : TypeId} (h : w.heap[g]? = some (.cells cur t (0, 0))) (o : Nat) (c0 c1 c2 c3 : Value) : (set4 w g o c0 c1 c2 c3).heap[g]? = some (.cells (put4 cur o c0 c1 c2 c3) t (0, 0)) :=
  heap_setCell_same _ _ _ _ _ _ (heap_setCell_same _ _ _ _ _ _ (heap_setCell_same _ _ _ _ _ _ (heap_setCell_same _ _ _ _ _ _ h)))
theorem set4_grown {w wr : World} {g : Nat} (h : w.grownBy wr (some g)) (o : Nat) (c0 c1 c2 c3 : Value) : w.grownBy (set4 wr g o c0 c1 c2 c3) (some g) := by
  refine ⟨h.os, h.tape, h.output, ?_, fun b h1 h2 => (set4_other _ _ _ _ _ _ _ _ (fun e => h2 (by rw [e]))).trans (h.block b h1 h2)⟩
  have := h.size
  simp [set4, World.setCell]
  exact this
theorem drew_at (w : World) (b : Nat) : w.drew.heap[b]? = w.heap[b]? := rfl
theorem grown_drew {w wr : World} {g : Option Nat} (h : w.grownBy wr g) : w.grownBy wr.drew g := ⟨h.os, h.tape, h.output, h.size, h.block⟩
/-- Two elements change places. -/
theorem swap_inv {S : Nat → Prop} {l : List V} {g cap k j : Nat} {w wr : World} {cur : Array Value} {x y : V} {x0 x1 x2 x3 y0 y1 y2 y3 : Value} (hS : ∀ k, S k → k < w.heap.size ∧ k ≠ g) (hkr : k < (revTo l k).length) (hjr : j < (revTo l k).length) (hkj : k < j) (hkn : k < l.length) (hj : j = l.length - 1 - k)
    (hinv : RevInv S l g cap k w wr) (hg : wr.heap[g]? = some (.cells cur 24 (0, 0))) (hsz : cur.size = cap * 4) (hl : l.length ≤ cap) (hrow : RepRow S wr (revTo l k) cur) (hx : (revTo l k)[k] = x) (hy : (revTo l k)[j] = y) (gx : RepG S wr x x0 x1 x2 x3) (gy : RepG S wr y y0 y1 y2 y3) :
    RevInv S l g cap (k + 1) w (set4 (set4 wr g (k * 4) y0 y1 y2 y3) g (j * 4) x0 x1 x2 x3).drew := by
  obtain ⟨_, _, _, _, hgr⟩ := hinv
  have hrl := revTo_length l k
  have hks : revTo l (k + 1) = ((revTo l k).set k y).set j x := by
    have h1 : y = l[l.length - 1 - k]'(by omega) := by
      rw [← hy, revTo_get, if_neg (by omega)]
      congr 1
    have h2 : x = l[k] := by rw [← hx, revTo_get, if_neg (by omega)]
    subst hj
    rw [h1, h2, revTo_step l k hkn (by omega)]
  refine ⟨put4 (put4 cur (k * 4) y0 y1 y2 y3) (j * 4) x0 x1 x2 x3, (drew_at _ g).trans (set4_same (set4_same hg _ _ _ _ _) _ _ _ _ _), by rw [put4_size, put4_size]; exact hsz, ?_, grown_drew (set4_grown (set4_grown hgr _ _ _ _ _) _ _ _ _ _)⟩
  rw [hks]
  have r1 := hrow.put hkr gy (by omega)
  have r2 := r1.put (k := j) (by simpa using hjr) gx (by rw [List.length_set, put4_size]; omega)
  exact r2.on (w' := (set4 (set4 wr g (k * 4) y0 y1 y2 y3) g (j * 4) x0 x1 x2 x3).drew) (fun _ h => h) (fun b hb => (drew_at _ b).trans <| (set4_other (set4 wr g (k * 4) y0 y1 y2 y3) g (j * 4) x0 x1 x2 x3 b (hS b hb).2).trans (set4_other wr g (k * 4) y0 y1 y2 y3 b (hS b hb).2))

set_option maxRecDepth 100000 in
set_option maxHeartbeats 2000000 in
theorem reverse_row (S : Nat → Prop) (l : List V) (g cap : Nat) (w : World) (hS : ∀ k, S k → k < w.heap.size ∧ k ≠ g) (hl : l.length ≤ cap) (hl2 : l.length ≤ 1000) (h0 : RevInv S l g cap 0 w w) :
    Calls Tryd.prog 62 #[.slice (some ⟨g, 0, none⟩) l.length cap] w fun e w' => e = .returned (.tuple #[]) ∧ ∃ k, l.length ≤ 2 * k + 1 ∧ RevInv S l g cap k w w' := by
  have H0 := Lib.hid h0; clear h0
  have HS := Lib.hid hS; clear hS
  go_enter Tryd.func62, Tryd.ntmps62
  go_wp2_with fail
  go_loopw [2, 3] (fun i j wr => ∃ k : Nat, k ≤ l.length ∧ i = .int .i64 k ∧ j = .int .i64 ((l.length : Int) - 1 - k) ∧ RevInv S l g cap k w wr) (fun i _ _ => l.length - (intOf i).toNat)
  case atStart => exact ⟨0, Nat.zero_le _, rfl, by simp, H0.out⟩
  case round =>
    obtain ⟨k, hk1, rfl, rfl, hinv⟩ := hrel
    have HI := Lib.hid hinv
    by_cases hlt : (k : Int) < (l.length : Int) - 1 - k
    · obtain ⟨cur, hg, hsz, hrow, -⟩ := hinv
      have hkn : k < l.length := by omega
      obtain ⟨j, hj⟩ : ∃ j : Nat, j = l.length - 1 - k := ⟨_, rfl⟩
      have hjz : (l.length : Int) - 1 - k = (j : Int) := by omega
      rw [hjz] at hlt ⊢
      have hj2 : j < l.length := by omega
      have hkr : k < (revTo l k).length := by rw [revTo_length]; exact hkn
      have hjr : j < (revTo l k).length := by rw [revTo_length]; exact hj2
      obtain ⟨x0, x1, x2, x3, a0, a1, a2, a3, ga⟩ := hrow k hkr
      obtain ⟨y0, y1, y2, y3, b0, b1, b2, b3, gb⟩ := hrow j hjr
      have HXE := Lib.hid (Eq.refl (revTo l k)[k]); have HYE := Lib.hid (Eq.refl (revTo l k)[j])
      generalize hxe : (revTo l k)[k] = x at ga
      generalize hye : (revTo l k)[j] = y at gb
      replace HXE := Lib.hid hxe; replace HYE := Lib.hid hye
      clear hxe hye
      have p0 := cell_of_block' hg _ a0; have p1 := cell_of_block' hg _ a1; have p2 := cell_of_block' hg _ a2; have p3 := cell_of_block' hg _ a3
      have q0 := cell_of_block' hg _ b0; have q1 := cell_of_block' hg _ b1; have q2 := cell_of_block' hg _ b2; have q3 := cell_of_block' hg _ b3
      have hjl : (j : Int) < l.length := by omega
      have hkj : k < j := by omega
      have HJ := Lib.hid hj
      have HG := Lib.hid hg; have HSZ := Lib.hid hsz; have HROW := Lib.hid hrow
      have HGA := Lib.hid ga; have HGB := Lib.hid gb
      obtain ⟨fa, fc, rfl, rfl, rfl, rfl⟩ := ga.form
      obtain ⟨fa', fc', rfl, rfl, rfl, rfl⟩ := gb.form
      have zf : ∀ i, wr.frozen? ⟨g, i, none⟩ = false := fun i => frozen_of_row wr g i _ _ hg
      clear hj hjz hg hsz hrow ga gb a0 a1 a2 a3 b0 b1 b2 b3
      have n1 : k * 4 + 3 < j * 4 := by omega
      go_wp2_with fail
      have HF := Lib.hid (swap_inv HS.out hkr hjr (by omega) hkn HJ.out HI.out HG.out HSZ.out hl HROW.out HXE.out HYE.out HGA.out HGB.out)
      go_region
      all_goals
        clear p0 p1 p2 p3 q0 q1 q2 q3 zf HGA HGB HROW HG
        go_wp2_with fail
        go_roundw
        case rel => exact ⟨k + 1, by omega, by go_num, by have := HJ.out; congr 1; omega, HF.out⟩
        case measure => simp [intOf]; omega
    · go_wp2_with fail
      go_end0
      exact ⟨rfl, k, by omega, HI.out⟩

end Go.Proofs.YtaomlkglodeaoaaDoor
