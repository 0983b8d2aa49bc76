/-
  The document's own Compare, as a contract.
-/
import Derived.Test.YtagehmcnihebdaaDoorCompare
import Derived.Test.YtagehmcnihebdaaDoorBoxed
namespace Go.Proofs.YtagehmcnihebdaaDoor
open Go.RowKit

theorem sign_any (a b : Bool) (w : World) : Calls Tryd.prog 41 #[.bool a, .bool b] w fun e w' => e = .returned (.int .i64 (if a = true then -1 else if b = true then 1 else 0)) ∧ w = w' := by
  cases a <;> cases b
  all_goals
    go_enter Tryd.func41, Tryd.ntmps41
    go_wp2
    go_ret
    exact ⟨rfl, rfl⟩

def RefCmpAt (x y : V) : Prop := ∀ (B : Nat) (w : World) (c0 c1 c2 c3 d0 d1 d2 d3 : Value), B ≤ w.heap.size → RepV B w x c0 c1 c2 c3 → RepV B w y d0 d1 d2 d3 →
  Calls Tryd.prog 25 #[.agg #[c0, c1, c2, c3], .agg #[d0, d1, d2, d3]] w fun e w' => e = .returned (.int .i64 (cmpV x y)) ∧ Below w.heap.size w w'

theorem cmpI_sign (n m : Int) : (if decide (n < m) = true then (-1 : Int) else if decide (m < n) = true then 1 else 0) = Lib.compareInt n m := by
  unfold Lib.compareInt; simp
theorem cmpS_sign (s s' : ByteArray) : (if Op.bytesLess s.toList s'.toList = true then (-1 : Int) else if (!(Op.bytesLess s.toList s'.toList) && !(s.toList == s'.toList)) = true then 1 else 0) = cmpS s s' := by
  unfold cmpS
  cases Op.bytesLess s.toList s'.toList <;> cases (s.toList == s'.toList) <;> simp

set_option maxHeartbeats 2000000 in
set_option maxRecDepth 100000 in
theorem refCmp_any (x y : V) : RefCmpAt x y := by
  match x, y with
  | .mk k n s l, .mk k' n' s' l' =>
  have hC : ∀ z, z ∈ l → ∀ y, RefCmpAt z y := fun z _hz y => refCmp_any z y
  have HC := Lib.hid hC; clear hC
  intro B w c0 c1 c2 c3 d0 d1 d2 d3 hB hx hy
  rw [repV_mk] at hx hy
  obtain ⟨rfl, rfl, rfl, hk, hn, hs, hl⟩ := hx
  obtain ⟨rfl, rfl, rfl, hk', hn', hs', hl'⟩ := hy
  have HL := Lib.hid hl
  have HL' := Lib.hid hl'
  obtain ⟨aa, ab, ao, ac, rfl, -⟩ := hl
  obtain ⟨ba, bb, bo, bc, rfl, -⟩ := hl'
  have hbb : Below w.heap.size w ((w.alloc (.cells #[.int .i64 k, .int .i64 n, .string s, .slice aa l.length ac] 24)).alloc (.cells #[.int .i64 k', .int .i64 n', .string s', .slice ba l'.length bc] 24)) :=
    ((Below.refl _ w).alloc (Nat.le_refl _) _).alloc (by simp) _
  by_cases e : k = k'
  · subst e
    by_cases e1 : k = 1
    · subst e1
      have HF : Hid (cmpV (.mk 1 n s l) (.mk 1 n' s' l') = Lib.compareInt n n') := by show _ = _; simp [cmpV]
      go_enter Tryd.func25, Tryd.ntmps25
      go_wp2_with fail
      refine (sign_any _ _ _).mono ?_
      rintro e w' ⟨rfl, rfl⟩
      rw [cmpI_sign]
      go_wp2_with fail
      go_ret
      exact ⟨ret_int HF.out.symm, hbb⟩
    · by_cases e23 : k = 2 ∨ k = 3
      · have HF : Hid (cmpV (.mk k n s l) (.mk k n' s' l') = cmpS s s') := by show _ = _; simp [cmpV, e1, e23]
        have f1 : (k == 1) = false := by simp [e1]
        have f4 : (k == 4) = false := by rcases e23 with h | h <;> simp [h]
        clear e1
        rcases e23 with rfl | rfl
        all_goals
          go_enter Tryd.func25, Tryd.ntmps25
          go_wp2_with fail
          refine (sign_any _ _ _).mono ?_
          rintro e w' ⟨rfl, rfl⟩
          rw [cmpS_sign]
          go_wp2_with fail
          go_ret
          exact ⟨ret_int HF.out.symm, hbb⟩
      · have e2 : ¬ k = 2 := fun h => e23 (Or.inl h)
        have e3 : ¬ k = 3 := fun h => e23 (Or.inr h)
        have f1 : (k == 1) = false := by simp [e1]
        have f2 : (k == 2) = false := by simp [e2]
        have f3 : (k == 3) = false := by simp [e3]
        by_cases e4 : k = 4
        · have HF : Hid (cmpV (.mk k n s l) (.mk k n' s' l') = cmpL l l') := by show _ = _; simp [cmpV, e4]
          subst e4
          clear e1 e2 e3 e23 f1 f2 f3
          go_enter Tryd.func25, Tryd.ntmps25
          go_wp2_with fail
          have x1 := boxed_new w (.int .i64 4) (.int .i64 n) (.string s) (.slice aa l.length ac)
          have b1 := (Below.refl _ w).alloc (Nat.le_refl _) (.cells #[.int .i64 4, .int .i64 n, .string s, .slice aa l.length ac] 24)
          have s1 := World.size_alloc w (.cells #[.int .i64 4, .int .i64 n, .string s, .slice aa l.length ac] 24)
          generalize w.alloc (.cells #[.int .i64 4, .int .i64 n, .string s, .slice aa l.length ac] 24) = w1 at *
          have y2 := boxed_new w1 (.int .i64 4) (.int .i64 n') (.string s') (.slice ba l'.length bc)
          have b2 := (Below.refl _ w1).alloc (Nat.le_refl _) (.cells #[.int .i64 4, .int .i64 n', .string s', .slice ba l'.length bc] 24)
          generalize w1.alloc (.cells #[.int .i64 4, .int .i64 n', .string s', .slice ba l'.length bc] 24) = w2 at *
          rw [s1] at y2
          have x2 := x1.on b2
          clear x1 b1 b2 s1
          have hs2 := hbb.size
          have HX2 := Lib.hid x2; have HY2 := Lib.hid y2; clear x2 y2
          obtain ⟨ca, cb, co, cc, hc1, hcl, hc56, hca, hcb, hcx⟩ := RepL.below (w' := w2) (fun j hj => hbb.block j (by omega)) HL.out
          cases hc1
          obtain ⟨da, db, dd, dc, hd1, hdl, hd56, hda, hdb, hdx⟩ := RepL.below (w' := w2) (fun j hj => hbb.block j (by omega)) HL'.out
          cases hd1
          have HCX := Lib.hid hcx; have HDX := Lib.hid hdx; have HCA := Lib.hid hca; have HDA := Lib.hid hda
          clear hcx hdx hca hda HL HL'
          go_loopw [5] (fun i wr => ∃ j : Nat, j ≤ l.length ∧ j ≤ l'.length ∧ i = .int .i64 j ∧ Hid (cmpL l l' = cmpL (l.drop j) (l'.drop j)) ∧ Below w2.heap.size w2 wr) (fun i _ => min l.length l'.length - (intOf i).toNat)
          case atStart => exact ⟨0, Nat.zero_le _, Nat.zero_le _, rfl, rfl, Below.refl _ _⟩
          case round =>
            obtain ⟨j, hj1, hj2, rfl, hrec, hbel⟩ := hrel
            obtain ⟨p0, p1, p2, p3⟩ := (HX2.out.on hbel).cells
            obtain ⟨q0, q1, q2, q3⟩ := (HY2.out.on hbel).cells
            have hsr := hbel.size
            by_cases hlt : j < l.length ∧ j < l'.length
            · obtain ⟨hl, hm⟩ := hlt
              obtain ⟨x0, x1, x2, x3, g0, g1, g2, g3, gr⟩ := HCX.out j hl
              obtain ⟨y0, y1, y2, y3, e0, e1, e2, e3, er⟩ := HDX.out j hm
              have hcb' : cb < B := hcb (by omega)
              have hdb' : db < B := hdb (by omega)
              obtain rfl := HCA.out (by omega)
              obtain rfl := HDA.out (by omega)
              rw [← hbel.cell (by simp; omega)] at g0 g1 g2 g3 e0 e1 e2 e3
              go_wp2_with fail
              go_still_tail 10, (by kernel_rfl)
              change wpList _ _ _ _ _ wr.drew
              have hbel2 : Below w2.heap.size w2 wr.drew := hbel.drew
              clear g0 g1 g2 g3 e0 e1 e2 e3 hbel p0 p1 p2 p3 q0 q1 q2 q3
              generalize wr.drew = w5 at *
              have hs5 := hbel2.size
              go_wp2_with fail
              refine (HC.out _ (List.getElem_mem hl) _ B w5 _ _ _ _ _ _ _ _ (by omega) (RepV.below (fun j hj => hbel2.block j (by omega)) _ gr) (RepV.below (fun j hj => hbel2.block j (by omega)) _ er)).mono ?_
              rintro e w6 ⟨rfl, hbel3⟩
              have hbel4 : Below w2.heap.size w2 w6 := hbel2.trans (hbel3.mono hs5)
              have hcons := cmpL_at hl hm
              generalize cmpV l[j] l'[j] = c at *
              have HN := Lib.hid hcons; clear hcons
              by_cases hc : c = 0
              · have hc' : (c != 0) = false := by simp [hc]
                have HCZ := Lib.hid hc; clear hc
                go_wp2_with fail
                go_roundw
                case rel => exact ⟨j + 1, by omega, by omega, by go_num, by show _ = _; rw [hrec.out, HN.out, if_neg (by simp [HCZ.out])], hbel4⟩
                case measure => simp [intOf]; omega
              · have hc' : (c != 0) = true := by simp [hc]
                have HCZ := Lib.hid hc; clear hc
                go_wp2_with fail
                go_ret
                exact ⟨ret_int (by rw [HF.out, hrec.out, HN.out, if_pos HCZ.out]), hbb.trans (hbel4.mono hs2)⟩
            · have hfin : cmpV (.mk 4 n s l) (.mk 4 n' s' l') = Lib.compareInt l.length l'.length := by rw [HF.out, hrec.out]; exact cmpL_end hj1 hj2 hlt
              have HFF := Lib.hid hfin; clear hfin hrec
              by_cases hjl : j < l.length
              · have t1 : decide (j < l'.length) = false := by simp; omega
                go_wp2_with fail
                refine (sign_any _ _ _).mono ?_
                rintro e w' ⟨rfl, rfl⟩
                go_wp2_with fail
                all_goals
                  go_ret
                  refine ⟨ret_int ?_, hbb.trans (hbel.mono hs2)⟩
                  rw [HFF.out]; unfold Lib.compareInt
                  (repeat' split) <;> omega
              · have t1 : decide (j < l.length) = false := by simp; omega
                go_wp2_with fail
                refine (sign_any _ _ _).mono ?_
                rintro e w' ⟨rfl, rfl⟩
                go_wp2_with fail
                all_goals
                  go_ret
                  refine ⟨ret_int ?_, hbb.trans (hbel.mono hs2)⟩
                  rw [HFF.out]; unfold Lib.compareInt
                  (repeat' split) <;> omega
        · have f4 : (k == 4) = false := by simp [e4]
          have HF : Hid (cmpV (.mk k n s l) (.mk k n' s' l') = 0) := by show _ = _; simp [cmpV, e1, e2, e3, e4]
          clear e1 e2 e3 e4 e23
          go_enter Tryd.func25, Tryd.ntmps25
          go_wp2_with fail
          go_ret
          exact ⟨ret_int HF.out.symm, hbb⟩
  · have f1 : (k != k') = true := by simp [e]
    have HF : Hid (cmpV (.mk k n s l) (.mk k' n' s' l') = if decide (k < k') = true then -1 else if true = true then 1 else 0) := by
      show _ = _
      simp only [cmpV, ne_eq, e, not_false_iff, if_true]
      unfold Lib.compareInt
      by_cases h : k < k' <;> simp [h]; omega
    clear e
    go_enter Tryd.func25, Tryd.ntmps25
    go_wp2_with fail
    refine (sign_any _ _ _).mono ?_
    rintro e w' ⟨rfl, rfl⟩
    rw [show (if decide (k < k') = true then (-1 : Int) else if true = true then 1 else 0) = cmpV (.mk k n s l) (.mk k' n' s' l') from by rw [HF.out]; simp]
    go_wp2_with fail
    go_ret
    exact ⟨rfl, hbb⟩
  termination_by SizeOf.sizeOf x
  decreasing_by
    have := List.sizeOf_lt_of_mem _hz
    simp only [V.mk.sizeOf_spec]
    omega

end Go.Proofs.YtagehmcnihebdaaDoor
