/-
  The document's own digits and Print, as contracts.
-/
import Derived.Test.YtagehmcnihebdaaDoorRefRight
import Derived.Test.YtagehmcnihebdaaDoorPrinted
namespace Go.Proofs.YtagehmcnihebdaaDoor
open Go.RowKit

theorem app_mk (l : List UInt8) (b : ByteArray) : (⟨l.toArray⟩ : ByteArray) ++ b = ⟨(l ++ b.data.toList).toArray⟩ := by
  apply ByteArray.ext
  rw [ByteArray.data_append]
  simp
theorem ret_ba {a b : ByteArray} (h : a = b) : Ending.returned (.string a) = .returned (.string b) := by rw [h]

/-- 'string([]byte{b})'. -/
theorem byte_str (w : World) (z : Int) (c : UInt8) (hz : z = (c.toNat : Int)) :
    (convert 41 9 (.slice (some ⟨w.heap.size, 0, none⟩) 1 1)).run Tryd.prog (w.alloc (.cells #[.int .u8 z] 5)) = .ok (.string ⟨#[c]⟩) (w.alloc (.cells #[.int .u8 z] 5)) := by
  have := run_convert_bytes_back (P := Tryd.prog) (w.alloc (.cells #[.int .u8 z] 5)) 41 9 5 ⟨w.heap.size, 0, none⟩ 1 [c] Tryd.underlying41 Tryd.underlying5 Tryd.underlying9 (fun j hj => by
    obtain rfl : j = 0 := by simpa using hj
    rw [show ((⟨w.heap.size, 0, none⟩ : Addr).add 0) = ⟨w.heap.size, 0, none⟩ from by unfold Addr.add; simp]
    rw [cell_of_block' (alloc_new' _ _) (.int .u8 z) rfl, hz]; rfl)
  exact this

theorem digit_u8 (n : Nat) : (48 + (n : Int) % 10) = ((UInt8.ofNat (48 + n % 10)).toNat : Int) := by
  rw [UInt8.toNat_ofNat', Nat.mod_eq_of_lt (by omega)]; omega

set_option maxHeartbeats 1000000 in
theorem digits_nat : ∀ (n : Nat), n ≤ 9223372036854775807 → ∀ w : World, Calls Tryd.prog 44 #[.int .i64 n] w fun e w' => e = .returned (.string ⟨(Lib.decDigits n).toArray⟩) ∧ Below w.heap.size w w'
  | n, hn, w => by
    have hbs := byte_str w _ _ (digit_u8 n)
    have hbb := (Below.refl _ w).alloc (Nat.le_refl _) (.cells #[.int .u8 (48 + (n : Int) % 10)] 5)
    have t0 : decide ((n : Int) < 0) = false := by simp
    have HDL := Lib.hid (decDigits_le 18 (n / 10) (by omega))
    by_cases h10 : n < 10
    · have HE : Hid (Lib.decDigits n = [UInt8.ofNat (48 + n % 10)]) := by show _ = _; rw [Lib.decDigits, dif_pos h10, Nat.mod_eq_of_lt h10]
      generalize UInt8.ofNat (48 + n % 10) = c at *
      go_enter Tryd.func44, Tryd.ntmps44
      go_wp2_with fail
      go_ret
      exact ⟨ret_ba (by rw [HE.out]), hbb⟩
    · have HE : Hid (Lib.decDigits n = Lib.decDigits (n / 10) ++ [UInt8.ofNat (48 + n % 10)]) := by show _ = _; rw [Lib.decDigits, dif_neg h10]
      have ih := digits_nat (n / 10) (by omega)
      have HIH := Lib.hid ih; clear ih
      generalize UInt8.ofNat (48 + n % 10) = c at *
      go_enter Tryd.func44, Tryd.ntmps44
      go_wp2_with fail
      rw [show ((n : Int) / 10) = ((n / 10 : Nat) : Int) from by omega]
      refine (HIH.out _).mono ?_
      rintro e w2 ⟨rfl, b2⟩
      have B2 := hbb.trans (b2.mono (by simp))
      clear hbs hbb b2
      have hdl := HDL.out
      have hsz := size_mk (Lib.decDigits (n / 10))
      generalize hds : (⟨(Lib.decDigits (n / 10)).toArray⟩ : ByteArray) = ds at *
      have hdsz : ds.size ≤ 19 := by omega
      have HDS := Lib.hid hds
      clear hds hsz hdl
      go_wp2_with fail
      go_ret
      exact ⟨ret_ba (by rw [HE.out, ← HDS.out, app_mk]), B2⟩
  termination_by n => n
  decreasing_by omega

set_option maxHeartbeats 1000000 in
theorem digits_any (n : Int) (h1 : -9223372036854775807 ≤ n) (h2 : n ≤ 9223372036854775807) (w : World) : Calls Tryd.prog 44 #[.int .i64 n] w fun e w' => e = .returned (.string ⟨(Lib.itoa n).toArray⟩) ∧ Below w.heap.size w w' := by
  by_cases h : n < 0
  · have HE : Hid (Lib.itoa n = 45 :: Lib.decDigits n.natAbs) := by show _ = _; rw [Lib.itoa, if_pos h]
    have t0 : decide (n < 0) = true := by simpa using h
    go_enter Tryd.func44, Tryd.ntmps44
    go_wp2_with fail
    rw [show (-n) = ((n.natAbs : Nat) : Int) from by omega]
    refine (digits_nat n.natAbs (by omega) _).mono ?_
    rintro e w2 ⟨rfl, b2⟩
    have hdl := decDigits_le 18 n.natAbs (by omega)
    have hsz := size_mk (Lib.decDigits n.natAbs)
    generalize hds : (⟨(Lib.decDigits n.natAbs).toArray⟩ : ByteArray) = ds at *
    have hdsz : ds.size ≤ 19 := by omega
    have HDS := Lib.hid hds
    clear hds hsz hdl
    go_wp2_with fail
    go_ret
    exact ⟨ret_ba (by rw [HE.out, ← HDS.out]; exact app_mk [45] _), b2⟩
  · have HE : Hid (Lib.itoa n = Lib.decDigits n.toNat) := by show _ = _; rw [Lib.itoa, if_neg h]
    have e : n = ((n.toNat : Nat) : Int) := by omega
    rw [HE.out]
    have hd := digits_nat n.toNat (by omega) w
    rw [← e] at hd
    exact hd

end Go.Proofs.YtagehmcnihebdaaDoor
