/-
  Layer 4's own names: 'Relation', 'Variable'.
-/
import Derived.Test.YtkaiihoijcpldaaFitPr
import Derived.Test.YtkaiihoijcpldaaPickFour
import Derived.Test.YtkaiihoijcpldaaRefArity
import Derived.Test.YtkaiihoijcpldaaStrAdd
import Derived.Lib.IndexBytes
namespace Go.Proofs.Ytkaiihoijcpldaa
open Go.RowKit

theorem Relation_any (s : ByteArray) (w : World) (hs : s.size ≤ maxLen) : Calls Try.prog 30 #[.string s] w fun e w' => e = .returned (.string (relOf s)) ∧ Below w.heap.size w w' := by
  have HS := Lib.hid hs
  clear hs
  obtain ⟨n, hn⟩ : ∃ n : ByteArray, ⟨(nameOf s).toArray⟩ = n := ⟨_, rfl⟩
  have HN := Lib.hid hn
  have HR : Hid (relOf s = if fnB n = true ∨ declB n = true then ⟨#[110]⟩ else n) := by show _ = _; rw [relOf, hn]
  clear hn
  cases h1 : fnB n with
  | true =>
    have h1' := of_decide_eq_true h1
    have HF : Hid (relOf s = ⟨#[110]⟩) := by show _ = _; rw [HR.out, if_pos (.inl h1)]
    have hge : decide (fnArity (fnOf n) ≥ 0) = true := decide_eq_true h1'
    clear h1 h1' HR
    go_enter Try.func30, Try.ntmps30
    go_wp2_with fail
    refine (lawName_any s w HS.out).mono ?_
    rw [HN.out]
    rintro e w2 ⟨rfl, hb⟩
    have B2 := Lib.hid hb
    clear hb
    go_wp2_with fail
    refine (refArity_any n _).mono ?_
    rintro e w3 ⟨rfl, rfl⟩
    go_wp2_with fail
    go_ret
    exact ⟨ret_ba HF.out.symm, B2.out⟩
  | false =>
    have h1' := of_decide_eq_false h1
    have hge : decide (fnArity (fnOf n) ≥ 0) = false := decide_eq_false h1'
    cases h2 : declB n with
    | true =>
      have HF : Hid (relOf s = ⟨#[110]⟩) := by show _ = _; rw [HR.out, if_pos (.inr h2)]
      rw [declB] at h2
      clear h1 h1' HR
      go_enter Try.func30, Try.ntmps30
      go_wp2_with fail
      refine (lawName_any s w HS.out).mono ?_
      rw [HN.out]
      rintro e w2 ⟨rfl, hb⟩
      have B2 := Lib.hid hb
      clear hb
      go_wp2_with fail
      refine (refArity_any n _).mono ?_
      rintro e w3 ⟨rfl, rfl⟩
      go_wp2_with fail
      go_ret
      exact ⟨ret_ba HF.out.symm, B2.out⟩
    | false =>
      have HF : Hid (relOf s = n) := by show _ = _; rw [HR.out, if_neg (by rw [h1, h2]; simp)]
      rw [declB] at h2
      clear h1 h1' HR
      go_enter Try.func30, Try.ntmps30
      go_wp2_with fail
      refine (lawName_any s w HS.out).mono ?_
      rw [HN.out]
      rintro e w2 ⟨rfl, hb⟩
      have B2 := Lib.hid hb
      clear hb
      go_wp2_with fail
      refine (refArity_any n _).mono ?_
      rintro e w3 ⟨rfl, rfl⟩
      go_wp2_with fail
      go_ret
      exact ⟨ret_ba HF.out.symm, B2.out⟩

theorem Variable_any (s : ByteArray) (w : World) (hs : s.size ≤ maxLen) : Calls Try.prog 28 #[.string s] w fun e w' => e = .returned (.string (varOf s)) ∧ Below w.heap.size w w' := by
  have HS := Lib.hid hs
  clear hs
  have hl := nameOf_length s
  obtain ⟨n, hn⟩ : ∃ n : ByteArray, ⟨(nameOf s).toArray⟩ = n := ⟨_, rfl⟩
  have hnz : n.size = 1 + min s.size 15 := by rw [← hn, size_mk, hl]
  have HN := Lib.hid hn
  have HF : Hid (varOf s = ⟨#[86]⟩ ++ n.extract 1 n.size) := by
    show _ = _
    rw [varOf]
    apply ByteArray.ext
    rw [ByteArray.data_append]
    apply Array.toList_inj.1
    have e1 : (n.extract 1 n.size).data.toList = n.data.toList.drop 1 := Lib.extract_to_end n 1
    rw [Array.toList_append, e1, ← hn]
    simp
  have hz : (n.extract 1 n.size).size = n.size - 1 := by rw [ByteArray.size_extract]; omega
  have y1 := strAdd ⟨#[86]⟩ (n.extract 1 n.size) (by rw [hz]; show 1 + (n.size - 1) ≤ _; omega)
  have h1 : (1 : Int) ≤ (n.size : Int) := by omega
  clear hn hl hnz hz
  go_enter Try.func28, Try.ntmps28
  go_wp2_with fail
  refine (lawName_any s w HS.out).mono ?_
  rw [HN.out]
  rintro e w2 ⟨rfl, hb⟩
  have B2 := Lib.hid hb
  clear hb
  go_wp2_with fail
  go_ret
  exact ⟨ret_ba HF.out.symm, B2.out⟩

end Go.Proofs.Ytkaiihoijcpldaa
