/-
  The document's own answers, as contracts: Name, sign, digits and the makers.
-/
import Derived.Test.YtgpgjaenbhbbgaaDoorName
import Derived.Test.YtgpgjaenbhbbgaaDoorBytes
import Derived.Test.YtgpgjaenbhbbgaaDoorMakers
namespace Go.Proofs.YtgpgjaenbhbbgaaDoor
open Go.RowKit

set_option maxRecDepth 100000 in
set_option maxHeartbeats 2000000 in
theorem refName_any (s : ByteArray) (w : World) (hs : s.size ≤ maxLen) :
    Calls Tryd.prog 85 #[.string s] w fun e w' => e = .returned (.bool (nameB s)) ∧ w = w' := by
  unfold maxLen at hs
  by_cases hz : s.size < 1
  · have HF := Lib.hid (nameB_size (s := s) (Or.inl hz))
    have hb1 : decide ((s.size : Int) < 1) = true := by simp; omega
    go_enter Tryd.func85, Tryd.ntmps85
    go_wp2_with fail
    go_ret
    exact ⟨ret_bool HF.out.symm, rfl⟩
  have hb1 : decide ((s.size : Int) < 1) = false := by simp; omega
  by_cases hz2 : 16 < s.size
  · have HF := Lib.hid (nameB_size (s := s) (Or.inr hz2))
    have hb2 : decide (16 < (s.size : Int)) = true := by simp; omega
    go_enter Tryd.func85, Tryd.ntmps85
    go_wp2_with fail
    go_ret
    exact ⟨ret_bool HF.out.symm, rfl⟩
  have hb2 : decide (16 < (s.size : Int)) = false := by simp; omega
  have h0 : 0 < s.size := by omega
  have h0u : (s[0].toNat : Int) ≤ 255 := by have := s[0].toNat_lt; omega
  by_cases hc : 97 ≤ (s[0].toNat : Int) ∧ (s[0].toNat : Int) ≤ 122
  · obtain ⟨hc1, hc2⟩ := hc
    have H0 : Hid (okAt 0 (s[0].toNat : Int) = true) := by show _ = _; simp only [okAt, smallB]; simp; omega
    have t1 : decide ((s[0].toNat : Int) < 97) = false := by simp; omega
    have t2 : decide (122 < (s[0].toNat : Int)) = false := by simp; omega
    go_enter Tryd.func85, Tryd.ntmps85
    go_wp2_with fail
    go_loop [3] (fun i => ∃ k : Nat, 1 ≤ k ∧ k ≤ s.size ∧ i = .int .i64 k ∧ Hid (∀ i (h : i < s.size), i < k → okAt i (s[i].toNat : Int) = true)) (fun i => s.size - (intOf i).toNat)
    case atStart => exact ⟨1, Nat.le_refl _, by omega, rfl, fun i _ hi => by obtain rfl : i = 0 := by omega
                                                                             exact H0.out⟩
    case round =>
      obtain ⟨k, hk1, hk2, rfl, hok⟩ := hrel
      clear t1 t2 hb1 hb2
      by_cases hlt : k < s.size
      · have hcd : ∃ c : UInt8, s[k] = c := ⟨_, rfl⟩
        obtain ⟨c, hcd⟩ := hcd
        have HC := Lib.hid hcd
        have hidx : (s[k].toNat : Int) = (c.toNat : Int) := by rw [hcd]
        have hcu : (c.toNat : Int) ≤ 255 := by have := c.toNat_lt; omega
        clear hidx
        have hcases : (97 ≤ (c.toNat : Int) ∧ (c.toNat : Int) ≤ 122) ∨ 122 < (c.toNat : Int) ∨ (c.toNat : Int) < 48 ∨ (48 ≤ (c.toNat : Int) ∧ (c.toNat : Int) ≤ 57) ∨ (c.toNat : Int) = 95 ∨ (57 < (c.toNat : Int) ∧ (c.toNat : Int) < 97 ∧ (c.toNat : Int) ≠ 95) := by omega
        rcases hcases with ⟨a1, a2⟩ | a1 | a1 | ⟨a1, a2⟩ | a1 | ⟨a1, a2, a3⟩
        · have t97 : decide (97 ≤ (c.toNat : Int)) = true := by simp; omega
          have t122 : decide ((c.toNat : Int) ≤ 122) = true := by simp; omega
          have HOK : Hid (okAt k (c.toNat : Int) = true) := by show _ = _; simp only [okAt, smallB, digitB]; simp; omega
          go_wp2_with fail
          go_round
          case rel =>
            refine ⟨k + 1, by omega, by omega, by go_num, fun i hi hi2 => ?_⟩
            by_cases e : i = k
            · subst e; rw [HC.out]; exact HOK.out
            · exact hok.out i hi (by omega)
          case measure => simp [intOf]; omega
        · have t97 : decide (97 ≤ (c.toNat : Int)) = true := by simp; omega
          have t122 : decide ((c.toNat : Int) ≤ 122) = false := by simp; omega
          have t48 : decide (48 ≤ (c.toNat : Int)) = true := by simp; omega
          have t57 : decide ((c.toNat : Int) ≤ 57) = false := by simp; omega
          have t95 : ((c.toNat : Int) == 95) = false := by simp; omega
          have HOK : Hid (okAt k (c.toNat : Int) = false) := by show _ = _; simp only [okAt, smallB, digitB]; simp; omega
          go_wp2_with fail
          go_ret
          exact ⟨ret_bool (nameB_false hlt (by rw [HC.out]; exact HOK.out)).symm, rfl⟩
        · have t97 : decide (97 ≤ (c.toNat : Int)) = false := by simp; omega
          have t48 : decide (48 ≤ (c.toNat : Int)) = false := by simp; omega
          have t95 : ((c.toNat : Int) == 95) = false := by simp; omega
          have HOK : Hid (okAt k (c.toNat : Int) = false) := by show _ = _; simp only [okAt, smallB, digitB]; simp; omega
          go_wp2_with fail
          go_ret
          exact ⟨ret_bool (nameB_false hlt (by rw [HC.out]; exact HOK.out)).symm, rfl⟩
        · have t97 : decide (97 ≤ (c.toNat : Int)) = false := by simp; omega
          have t48 : decide (48 ≤ (c.toNat : Int)) = true := by simp; omega
          have t57 : decide ((c.toNat : Int) ≤ 57) = true := by simp; omega
          have HOK : Hid (okAt k (c.toNat : Int) = true) := by show _ = _; simp only [okAt, smallB, digitB]; simp; omega
          go_wp2_with fail
          go_round
          case rel =>
            refine ⟨k + 1, by omega, by omega, by go_num, fun i hi hi2 => ?_⟩
            by_cases e : i = k
            · subst e; rw [HC.out]; exact HOK.out
            · exact hok.out i hi (by omega)
          case measure => simp [intOf]; omega
        · have t97 : decide (97 ≤ (c.toNat : Int)) = false := by simp; omega
          have t48 : decide (48 ≤ (c.toNat : Int)) = true := by simp; omega
          have t57 : decide ((c.toNat : Int) ≤ 57) = false := by simp; omega
          have t95 : ((c.toNat : Int) == 95) = true := by simp; omega
          have HOK : Hid (okAt k (c.toNat : Int) = true) := by show _ = _; simp only [okAt, smallB, digitB]; simp; omega
          clear a1
          go_wp2_with fail
          go_round
          case rel =>
            refine ⟨k + 1, by omega, by omega, by go_num, fun i hi hi2 => ?_⟩
            by_cases e : i = k
            · subst e; rw [HC.out]; exact HOK.out
            · exact hok.out i hi (by omega)
          case measure => simp [intOf]; omega
        · have t97 : decide (97 ≤ (c.toNat : Int)) = false := by simp; omega
          have t48 : decide (48 ≤ (c.toNat : Int)) = true := by simp; omega
          have t57 : decide ((c.toNat : Int) ≤ 57) = false := by simp; omega
          have t95 : ((c.toNat : Int) == 95) = false := by simp; omega
          have HOK : Hid (okAt k (c.toNat : Int) = false) := by show _ = _; simp only [okAt, smallB, digitB]; simp; omega
          go_wp2_with fail
          go_ret
          exact ⟨ret_bool (nameB_false hlt (by rw [HC.out]; exact HOK.out)).symm, rfl⟩
      · have HF := Lib.hid (nameB_true (s := s) (by omega) (by omega) (fun i hi => hok.out i hi (by omega)))
        go_wp2_with fail
        go_ret
        exact ⟨ret_bool HF.out.symm, rfl⟩
  · have H0 : Hid (nameB s = false) := nameB_false h0 (by simp only [okAt, smallB]; simp; omega)
    by_cases h97 : (s[0].toNat : Int) < 97
    · have t1 : decide ((s[0].toNat : Int) < 97) = true := by simp; omega
      go_enter Tryd.func85, Tryd.ntmps85
      go_wp2_with fail
      go_ret
      exact ⟨ret_bool H0.out.symm, rfl⟩
    · have t1 : decide ((s[0].toNat : Int) < 97) = false := by simp; omega
      have t2 : decide (122 < (s[0].toNat : Int)) = true := by simp; omega
      go_enter Tryd.func85, Tryd.ntmps85
      go_wp2_with fail
      go_ret
      exact ⟨ret_bool H0.out.symm, rfl⟩

end Go.Proofs.YtgpgjaenbhbbgaaDoor
