/-
  What the law's own 'Name' makes is a name.
-/
import Derived.Test.YtkaiihoijcpldaaSizeMk
import Derived.Test.YtkaiihoijcpldaaW10
import Derived.Test.YtkaiihoijcpldaaLawName
namespace Go.Proofs.Ytkaiihoijcpldaa.valueNames
open Go.RowKit

theorem nameByte_ok (i : Nat) (h : 1 ≤ i) (c : UInt8) : okAt i ((nameByte c).toNat : Int) = true := by
  have hi : decide (i = 0) = false := by simp; omega
  by_cases h1 : c.toNat % 37 < 26
  · simp only [okAt, smallB, nameByte_small c h1, hi, Bool.or_eq_true, decide_eq_true_eq]; omega
  · by_cases h2 : c.toNat % 37 < 36
    · simp only [okAt, smallB, digitB, nameByte_digit c h1 h2, hi, Bool.or_eq_true, Bool.and_eq_true, decide_eq_true_eq, Bool.not_false]
      right; refine ⟨trivial, Or.inl ?_⟩; omega
    · simp [okAt, smallB, digitB, nameByte_low c h1 h2, hi]
theorem ba_get (l : List UInt8) (i : Nat) (_h : i < (⟨l.toArray⟩ : ByteArray).size) (h' : i < l.length) : (⟨l.toArray⟩ : ByteArray)[i] = l[i] := by
  show l.toArray[i] = l[i]
  simp
/-- A list of bytes is a name just if its length is one, and each byte may stand where it stands. -/
theorem nameB_list (l : List UInt8) : nameB ⟨l.toArray⟩ = true ↔ (1 ≤ l.length ∧ l.length ≤ 16 ∧ ∀ i (h : i < l.length), okAt i (l[i].toNat : Int) = true) := by
  rw [nameB, decide_eq_true_eq]
  have hsz := size_mk l
  constructor
  · rintro ⟨h1, h2, h3⟩
    exact ⟨by omega, by omega, fun i h => by have := h3 i (by omega); rwa [ba_get l i (by omega) h] at this⟩
  · rintro ⟨h1, h2, h3⟩
    exact ⟨by omega, by omega, fun i h => by rw [ba_get l i h (by omega)]; exact h3 i _⟩
theorem nameOf_ok (s : ByteArray) : ∀ i (h : i < (nameOf s).length), okAt i ((nameOf s)[i].toNat : Int) = true := by
  intro i h
  match i, h with
  | 0, _ => simp [nameOf, okAt, smallB]
  | i + 1, h =>
    have : (nameOf s)[i + 1] = nameByte ((s.data.toList.take 15)[i]'(by simp [nameOf] at h; simp; omega)) := by simp [nameOf]
    rw [this]
    exact nameByte_ok (i + 1) (by omega) _
theorem name_of (s : ByteArray) : nameB ⟨(nameOf s).toArray⟩ = true :=
  (nameB_list _).2 ⟨by rw [nameOf_length]; omega, by rw [nameOf_length]; omega, nameOf_ok s⟩

end Go.Proofs.Ytkaiihoijcpldaa.valueNames
