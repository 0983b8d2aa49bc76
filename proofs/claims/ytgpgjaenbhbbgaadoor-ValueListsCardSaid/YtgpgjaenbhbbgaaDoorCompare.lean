/-
  value.Compare and what it calls, as contracts.
-/
import Derived.Test.YtgpgjaenbhbbgaaDoorBase
import Derived.Test.YtgpgjaenbhbbgaaDoorShelf
import Derived.WalkSpells
import Derived.WalkLawsBesides
import Derived.StillTailTactics
namespace Go.Proofs.YtgpgjaenbhbbgaaDoor
open Go.RowKit

def cmpS (a b : ByteArray) : Int := if Op.bytesLess a.toList b.toList = true then -1 else if (a.toList == b.toList) = true then 0 else 1

theorem isNaN_str (s : ByteArray) (w : World) : Calls Tryd.prog 64 #[.string s] w fun e w' => e = .returned (.bool false) ∧ w = w' := by
  go_enter Tryd.func64, Tryd.ntmps64
  go_wp2
  go_ret
  exact ⟨by simp, rfl⟩

theorem ret_int {k : IntKind} {a b : Int} (h : a = b) : Ending.returned (.int k a) = .returned (.int k b) := by rw [h]

set_option maxRecDepth 100000 in
set_option maxHeartbeats 400000 in
theorem cmp_str (a b : ByteArray) (w : World) : Calls Tryd.prog 38 #[.string a, .string b] w fun e w' => e = .returned (.int .i64 (cmpS a b)) ∧ w = w' := by
  go_enter Tryd.func38, Tryd.ntmps38
  go_wp2_with (go_at_call 64; refine (isNaN_str _ _).mono ?_; rintro e w' ⟨rfl, rfl⟩)
  all_goals go_ret
  · exact ⟨ret_int (by unfold cmpS; rw [if_pos ‹_›]), rfl⟩
  · exact ⟨ret_int (by unfold cmpS; rw [if_neg (by simp [*]), if_neg (by simp_all)]), rfl⟩
  · exact ⟨ret_int (by unfold cmpS; rw [if_neg (by simp [*]), if_pos (by simp_all)]), rfl⟩

mutual
def cmpV : V → V → Int
  | .mk k n s l, .mk k' n' s' l' =>
    if k ≠ k' then Lib.compareInt k k' else if k = 1 then Lib.compareInt n n' else if k = 2 ∨ k = 3 then cmpS s s' else if k = 4 then cmpL l l' else 0
def cmpL : List V → List V → Int
  | [], [] => 0
  | [], _ :: _ => -1
  | _ :: _, [] => 1
  | x :: l, y :: m => if cmpV x y ≠ 0 then cmpV x y else cmpL l m
end

theorem cmpL_at {l m : List V} {k : Nat} (hl : k < l.length) (hm : k < m.length) : cmpL (l.drop k) (m.drop k) = if cmpV l[k] m[k] ≠ 0 then cmpV l[k] m[k] else cmpL (l.drop (k + 1)) (m.drop (k + 1)) := by
  rw [List.drop_eq_getElem_cons hl, List.drop_eq_getElem_cons hm, cmpL]
theorem cmpL_end {l m : List V} {k : Nat} (hl : k ≤ l.length) (hm : k ≤ m.length) (h : ¬ (k < l.length ∧ k < m.length)) : cmpL (l.drop k) (m.drop k) = Lib.compareInt l.length m.length := by
  unfold Lib.compareInt
  by_cases e1 : k < l.length
  · have e2 : k = m.length := by omega
    rw [List.drop_of_length_le (l := m) (by omega), List.drop_eq_getElem_cons e1, cmpL, if_neg (by omega), if_pos (by omega)]
  · rw [List.drop_of_length_le (l := l) (by omega)]
    by_cases e2 : k < m.length
    · rw [List.drop_eq_getElem_cons e2, cmpL, if_pos (by omega)]
    · rw [List.drop_of_length_le (l := m) (by omega), cmpL, if_neg (by omega), if_neg (by omega)]

/-- What 'Compare' does. -/
def CmpAt (x y : V) : Prop := ∀ (B : Nat) (w : World) (c0 c1 c2 c3 d0 d1 d2 d3 : Value), B ≤ w.heap.size → RepV B w x c0 c1 c2 c3 → RepV B w y d0 d1 d2 d3 →
  Calls Tryd.prog 9 #[.agg #[c0, c1, c2, c3], .agg #[d0, d1, d2, d3]] w fun e w' => e = .returned (.int .i64 (cmpV x y)) ∧ Below w.heap.size w w'

set_option maxRecDepth 100000 in
set_option maxHeartbeats 400000 in
theorem cmpLists_of (l m : List V) (hC : ∀ x, x ∈ l → ∀ y, CmpAt x y) (B : Nat) (w : World) (a b : Value) (hB : B ≤ w.heap.size) (ha : RepL B w l a) (hb : RepL B w m b) :
    Calls Tryd.prog 39 #[a, b] w fun e w' => e = .returned (.int .i64 (cmpL l m)) ∧ Below w.heap.size w w' := by
  obtain ⟨aa, ab, ao, ac, rfl, hal, hac, haa, hab, hax⟩ := ha
  obtain ⟨ba, bb, bo, bc, rfl, hbl, hbc, hba, hbb, hbx⟩ := hb
  have HC := Lib.hid hC; clear hC
  have HAX := Lib.hid hax; clear hax
  have HBX := Lib.hid hbx; clear hbx
  have HAA := Lib.hid haa; clear haa
  have HBA := Lib.hid hba; clear hba
  go_enter Tryd.func39, Tryd.ntmps39
  go_wp2_with fail
  go_loopw [12] (fun i wr => ∃ k : Nat, k ≤ l.length ∧ k ≤ m.length ∧ i = .int .i64 k ∧ Hid (cmpL l m = cmpL (l.drop k) (m.drop k)) ∧ Below w.heap.size w wr) (fun i _ => min l.length m.length - (intOf i).toNat)
  case atStart => exact ⟨0, Nat.zero_le _, Nat.zero_le _, rfl, rfl, Below.refl _ _⟩
  case round =>
    obtain ⟨k, hk1, hk2, rfl, hrec, hbel⟩ := hrel
    by_cases hlt : k < l.length ∧ k < m.length
    · obtain ⟨hl, hm⟩ := hlt
      obtain ⟨x0, x1, x2, x3, g0, g1, g2, g3, gr⟩ := HAX.out k hl
      obtain ⟨y0, y1, y2, y3, e0, e1, e2, e3, er⟩ := HBX.out k hm
      have hab' : ab < B := hab (by omega)
      have hbb' : bb < B := hbb (by omega)
      obtain rfl := HAA.out (by omega)
      obtain rfl := HBA.out (by omega)
      rw [← hbel.cell (by simp; omega)] at g0 g1 g2 g3 e0 e1 e2 e3
      go_wp2_with fail
      go_still_tail 8, (by kernel_rfl)
      change wpList _ _ _ _ _ wr.drew
      have hbel2 : Below w.heap.size w wr.drew := hbel.drew
      clear g0 g1 g2 g3 e0 e1 e2 e3 hbel
      generalize wr.drew = w2 at *
      have hs := hbel2.size
      go_wp2_with fail
      refine (HC.out _ (List.getElem_mem hl) _ B w2 _ _ _ _ _ _ _ _ (by omega) (RepV.below (fun j hj => hbel2.block j (by omega)) _ gr) (RepV.below (fun j hj => hbel2.block j (by omega)) _ er)).mono ?_
      rintro e w3 ⟨rfl, hbel3⟩
      have hbel4 : Below w.heap.size w w3 := hbel2.trans (hbel3.mono hs)
      have hcons := cmpL_at hl hm
      generalize cmpV l[k] m[k] = c at *
      have HN := Lib.hid hcons; clear hcons
      by_cases hc : c = 0
      · have hc' : (c != 0) = false := by simp [hc]
        have HCZ := Lib.hid hc; clear hc
        go_wp2_with fail
        go_roundw
        case rel => exact ⟨k + 1, by omega, by omega, by go_num, by show _ = _; rw [hrec.out, HN.out, if_neg (by simp [HCZ.out])], hbel4⟩
        case measure => simp [intOf]; omega
      · have hc' : (c != 0) = true := by simp [hc]
        have HCZ := Lib.hid hc; clear hc
        go_wp2_with fail
        go_ret
        exact ⟨ret_int (by rw [hrec.out, HN.out, if_pos HCZ.out]), hbel4⟩
    · have hfin : cmpL l m = Lib.compareInt l.length m.length := by rw [hrec.out]; exact cmpL_end hk1 hk2 hlt
      have HF := Lib.hid hfin; clear hfin hrec
      have hmin : ¬ (k : Int) < min (l.length : Int) (m.length : Int) := by omega
      go_wp2_with fail
      refine (Tryd.cmp_Compare_int _ _ _).mono ?_
      rintro e w' ⟨rfl, rfl⟩
      go_wp2_with fail
      go_ret
      exact ⟨ret_int HF.out.symm, hbel⟩

theorem below2 (w : World) (o1 o2 : Obj) {w' : World} (h : Below ((w.alloc o1).alloc o2).heap.size ((w.alloc o1).alloc o2) w') : Below w.heap.size w w' :=
  (((Below.refl _ w).alloc (Nat.le_refl _) o1).alloc (by simp) o2).trans (h.mono (by simp; omega))

set_option maxRecDepth 100000 in
set_option maxHeartbeats 1000000 in
theorem cmp_any (x y : V) : CmpAt x y := by
  match x, y with
  | .mk k n s l, .mk k' n' s' l' =>
  have hC : ∀ z, z ∈ l → ∀ y, CmpAt z y := fun z hz y => cmp_any z y
  have HC := Lib.hid hC; clear hC
  intro B w c0 c1 c2 c3 d0 d1 d2 d3 hB hx hy
  rw [repV_mk] at hx hy
  obtain ⟨rfl, rfl, rfl, hk, hn, hs, hl⟩ := hx
  obtain ⟨rfl, rfl, rfl, hk', hn', hs', hl'⟩ := hy
  have HL := Lib.hid hl; clear hl
  have HL' := Lib.hid hl'; clear hl'
  have hbb : Below w.heap.size w ((w.alloc (.cells #[.int .i64 k, .int .i64 n, .string s, c3] 24)).alloc (.cells #[.int .i64 k', .int .i64 n', .string s', d3] 24)) :=
    ((Below.refl _ w).alloc (Nat.le_refl _) _).alloc (by simp) _
  by_cases e : k = k'
  · subst e
    by_cases e1 : k = 1
    · subst e1
      go_enter Tryd.func9, Tryd.ntmps9
      go_wp2_with fail
      refine (Tryd.cmp_Compare_int _ _ _).mono ?_
      rintro e w' ⟨rfl, rfl⟩
      go_wp2_with fail
      go_ret
      exact ⟨ret_int (by simp [cmpV]), hbb⟩
    · by_cases e2 : k = 2
      · subst e2
        go_enter Tryd.func9, Tryd.ntmps9
        go_wp2_with fail
        refine (cmp_str _ _ _).mono ?_
        rintro e w' ⟨rfl, rfl⟩
        go_wp2_with fail
        go_ret
        exact ⟨ret_int (by simp [cmpV]), hbb⟩
      · by_cases e3 : k = 3
        · subst e3
          go_enter Tryd.func9, Tryd.ntmps9
          go_wp2_with fail
          refine (cmp_str _ _ _).mono ?_
          rintro e w' ⟨rfl, rfl⟩
          go_wp2_with fail
          go_ret
          exact ⟨ret_int (by simp [cmpV]), hbb⟩
        · by_cases e4 : k = 4
          · subst e4
            go_enter Tryd.func9, Tryd.ntmps9
            go_wp2_with fail
            refine (cmpLists_of l l' HC.out B _ _ _ (by simp; omega) (RepL.below (fun j hj => hbb.block j (by omega)) HL.out) (RepL.below (fun j hj => hbb.block j (by omega)) HL'.out)).mono ?_
            rintro e w' ⟨rfl, hb⟩
            have hb4 := below2 _ _ _ hb
            go_wp2_with fail
            go_ret
            exact ⟨ret_int (by simp [cmpV]), hb4⟩
          · have f1 : (k == 1) = false := by simp [e1]
            have f2 : (k == 2) = false := by simp [e2]
            have f3 : (k == 3) = false := by simp [e3]
            have f4 : (k == 4) = false := by simp [e4]
            have HF : Hid (cmpV (.mk k n s l) (.mk k n' s' l') = 0) := by show _ = _; simp [cmpV, e1, e2, e3, e4]
            clear e1 e2 e3 e4
            go_enter Tryd.func9, Tryd.ntmps9
            go_wp2_with fail
            go_ret
            exact ⟨ret_int HF.out.symm, hbb⟩
  · have f1 : (k != k') = true := by simp [e]
    have HF : Hid (cmpV (.mk k n s l) (.mk k' n' s' l') = Lib.compareInt k k') := by show _ = _; simp [cmpV, e]
    clear e
    go_enter Tryd.func9, Tryd.ntmps9
    go_wp2_with fail
    refine (Tryd.cmp_Compare_int _ _ _).mono ?_
    rintro e w' ⟨rfl, rfl⟩
    go_wp2_with fail
    go_ret
    exact ⟨ret_int HF.out.symm, hbb⟩
  termination_by SizeOf.sizeOf x
  decreasing_by
    have := List.sizeOf_lt_of_mem hz
    simp only [V.mk.sizeOf_spec]
    omega

end Go.Proofs.YtgpgjaenbhbbgaaDoor
