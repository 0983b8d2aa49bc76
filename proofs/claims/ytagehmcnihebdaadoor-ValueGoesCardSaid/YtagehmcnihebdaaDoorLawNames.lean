/-
  ValueNames: for every text, number, byte and text the law returns true: a name is 1 to 16 bytes, a letter ahead.
-/
import Derived.Test.YtagehmcnihebdaaDoorLaw
import Derived.Test.YtagehmcnihebdaaDoorLawName
import Derived.Test.YtagehmcnihebdaaDoorPick
namespace Go.Proofs.YtagehmcnihebdaaDoor.valueNames
open Go.ChangeShapes Go.WideShapes Go.ChangeAt Go.RowKit

theorem nameByte_ok (i : Nat) (h : 1 ≤ i) (c : UInt8) : okAt i ((nameByte c).toNat : Int) = true := by
  have hi : decide (i = 0) = false := by simp; omega
  by_cases h1 : c.toNat % 37 < 26
  · simp only [okAt, smallB, nameByte_small c h1, hi, Bool.or_eq_true, decide_eq_true_eq]; omega
  · by_cases h2 : c.toNat % 37 < 36
    · simp only [okAt, smallB, digitB, nameByte_digit c h1 h2, hi, Bool.or_eq_true, Bool.and_eq_true, decide_eq_true_eq, Bool.not_false]
      right; refine ⟨trivial, Or.inl ?_⟩; omega
    · simp [okAt, smallB, digitB, nameByte_low c h1 h2, hi]
theorem ba_get (l : List UInt8) (i : Nat) (_h : i < (⟨l.toArray⟩ : ByteArray).size) (h' : i < l.length) : (⟨l.toArray⟩ : ByteArray)[i] = l[i] := by
  show l.toArray[i] = l[i]
  simp
/-- A list of bytes is a name just if its length is one, and each byte may stand where it stands. -/
theorem nameB_list (l : List UInt8) : nameB ⟨l.toArray⟩ = true ↔ (1 ≤ l.length ∧ l.length ≤ 16 ∧ ∀ i (h : i < l.length), okAt i (l[i].toNat : Int) = true) := by
  rw [nameB, decide_eq_true_eq]
  have hsz := size_mk l
  constructor
  · rintro ⟨h1, h2, h3⟩
    exact ⟨by omega, by omega, fun i h => by have := h3 i (by omega); rwa [ba_get l i (by omega) h] at this⟩
  · rintro ⟨h1, h2, h3⟩
    exact ⟨by omega, by omega, fun i h => by rw [ba_get l i h (by omega)]; exact h3 i _⟩
theorem nameOf_ok (s : ByteArray) : ∀ i (h : i < (nameOf s).length), okAt i ((nameOf s)[i].toNat : Int) = true := by
  intro i h
  match i, h with
  | 0, _ => simp [nameOf, okAt, smallB]
  | i + 1, h =>
    have : (nameOf s)[i + 1] = nameByte ((s.data.toList.take 15)[i]'(by simp [nameOf] at h; simp; omega)) := by simp [nameOf]
    rw [this]
    exact nameByte_ok (i + 1) (by omega) _
theorem name_of (s : ByteArray) : nameB ⟨(nameOf s).toArray⟩ = true :=
  (nameB_list _).2 ⟨by rw [nameOf_length]; omega, by rw [nameOf_length]; omega, nameOf_ok s⟩
theorem name_set (s : ByteArray) (k : Nat) (c : UInt8) (hk : k < (nameOf s).length) : nameB ⟨((nameOf s).set k c).toArray⟩ = okAt k (c.toNat : Int) := by
  rw [Bool.eq_iff_iff, nameB_list]
  constructor
  · rintro ⟨_, _, h⟩
    have := h k (by simpa using hk)
    simpa using this
  · intro h
    refine ⟨by rw [List.length_set, nameOf_length]; omega, by rw [List.length_set, nameOf_length]; omega, fun i hi => ?_⟩
    rw [List.getElem_set]
    split
    · rename_i e; subst e; exact h
    · exact nameOf_ok s i _
theorem name_long (l m : List UInt8) (h : 16 < l.length + m.length) : nameB ⟨(l ++ m).toArray⟩ = false := by
  rw [← Bool.not_eq_true, nameB_list]
  simp only [List.length_append]
  omega
theorem name_none : nameB ⟨#[]⟩ = false := by decide

theorem append_mk (l : List UInt8) (b : ByteArray) : (⟨l.toArray⟩ : ByteArray) ++ b = ⟨(l ++ b.data.toList).toArray⟩ := by
  apply ByteArray.ext
  rw [ByteArray.data_append]
  simp
theorem byte_of {c : Int} (h : 0 ≤ c ∧ c ≤ 255) : ∃ u : UInt8, c = (u.toNat : Int) :=
  ⟨UInt8.ofNat c.toNat, by rw [UInt8.toNat_ofNat', Nat.mod_eq_of_lt (by omega)]; omega⟩

theorem name_big (s : ByteArray) (w : World) (h : 16 < s.size) (hs : s.size ≤ maxLen) : Calls Tryd.prog 20 #[.string s] w fun e w' => e = .returned (.bool false) ∧ Below w.heap.size w w' :=
  (name_any s w hs).mono fun e w' ⟨he, hb⟩ => ⟨by rw [he, nameB_size (Or.inr h)], hb⟩

set_option maxHeartbeats 4000000 in
theorem walk (s : ByteArray) (at_ : Int) (c : Int) (more : ByteArray) (W : World) (htab : TabOk W) (hs : s.size ≤ maxLen) (_ks : s.size ≤ 140737488351232) (hat : I64 at_) (hc : 0 ≤ c ∧ c ≤ 255) (hm : more.size ≤ maxLen) (km : more.size ≤ 140737488351232) :
    Calls Tryd.prog 8 #[.string s, .int .i64 at_, .int .u8 c, .string more] W fun e W' => e = .returned (.bool true) ∧ Below W.heap.size W W' := by
  obtain ⟨u, rfl⟩ := byte_of hc
  have HT := Lib.hid htab
  have hg := tab_lt htab
  clear htab
  have hl := nameOf_length s
  obtain ⟨hp1, hp2⟩ := pickZ_bd at_ (nameOf s).length (by omega)
  have hl1 : 1 ≤ (nameOf s).length := by omega
  have hl2 : (nameOf s).length ≤ 16 := by omega
  clear hl
  go_enter Tryd.func8, Tryd.ntmps8
  go_wp2_with fail
  refine (awake_any _ hg HT.out).mono ?_
  rintro e w1 ⟨rfl, b1⟩
  go_wp2_with fail
  refine (lawName_any s _ hs).mono ?_
  rintro e w2 ⟨rfl, b2⟩
  have B2 := Below.step b1 b2
  clear b1 b2
  have HNM := Lib.hid (name_of s)
  have HSET := Lib.hid (name_set s)
  generalize nameOf s = l at *
  go_wp2_with fail
  refine (pick_any at_ l.length _ hat (by omega) (by omega)).mono ?_
  rintro e w2' ⟨rfl, rfl⟩
  generalize pickZ at_ l.length = kz at *
  obtain ⟨k, rfl⟩ := Int.eq_ofNat_of_zero_le hp1
  have hkl : k < l.length := by omega
  have HSK := Lib.hid (HSET.out k u hkl)
  clear HSET
  have hconv := conv_to w2 ⟨l.toArray⟩
  rw [size_mk] at hconv
  have hby := bytes_new w2 ⟨l.toArray⟩
  have hbe := bytes_below w2 ⟨l.toArray⟩
  have hdl : (⟨l.toArray⟩ : ByteArray).data.toList = l := by simp
  rw [hdl] at hby
  clear hdl
  generalize grownCap w2 l.length 0 5 = cap at *
  generalize Lib.bytesWorld w2 5 ⟨l.toArray⟩ = w3 at *
  have hcell := hby.cell k hkl
  have hfree := hby.free k hkl
  have HBY := Lib.hid (hby.set k u)
  have B3 := (Below.step B2 hbe).setCell (p := ⟨w2.heap.size, k, none⟩) B2.size (.int .u8 (u.toNat : Int))
  clear hby hbe
  have hu : (u.toNat : Int) ≤ 255 := hc.2
  have hcases : (97 ≤ (u.toNat : Int) ∧ (u.toNat : Int) ≤ 122) ∨ (122 < (u.toNat : Int) ∧ k = 0) ∨ (122 < (u.toNat : Int) ∧ 0 < k) ∨ ((u.toNat : Int) < 97 ∧ k = 0) ∨ ((u.toNat : Int) < 48 ∧ 0 < k) ∨ ((48 ≤ (u.toNat : Int) ∧ (u.toNat : Int) ≤ 57) ∧ 0 < k) ∨ ((u.toNat : Int) = 95 ∧ 0 < k) ∨ ((57 < (u.toNat : Int) ∧ (u.toNat : Int) < 97 ∧ (u.toNat : Int) ≠ 95) ∧ 0 < k) := by omega
  rcases hcases with ⟨a1, a2⟩ | ⟨a1, a2⟩ | ⟨a1, a2⟩ | ⟨a1, a2⟩ | ⟨a1, a2⟩ | ⟨⟨a1, a3⟩, a2⟩ | ⟨a1, a2⟩ | ⟨⟨a1, a3, a4⟩, a2⟩
  · have t97 : decide (97 ≤ (u.toNat : Int)) = true := by simp; omega
    have t122 : decide ((u.toNat : Int) ≤ 122) = true := by simp; omega
    have HOK : Hid (okAt k (u.toNat : Int) = true) := by show _ = _; simp only [okAt, smallB, digitB]; simp; omega
    go_wp2_with fail
    refine (name_any _ _ (by rw [size_mk]; unfold maxLen; omega)).mono ?_
    rintro e w4 ⟨rfl, b4⟩
    rw [HNM.out]
    have BY4 := HBY.out.on (b4.block _ HBY.out.lt)
    have hback := conv_back w4 w2.heap.size cap (l.set k u) BY4
    rw [List.length_set] at hback
    have B4 := Below.step B3 b4
    clear b4 BY4
    go_wp2_with fail
    refine (name_any _ _ (by rw [size_mk, List.length_set]; unfold maxLen; omega)).mono ?_
    rintro e w5 ⟨rfl, b5⟩
    rw [HSK.out, HOK.out]
    have B5 := Below.step B4 b5
    clear b5 hback B4
    go_wp2_with fail
    refine (name_any _ _ (by unfold maxLen; decide)).mono ?_
    rintro e w6 ⟨rfl, b6⟩
    rw [name_none]
    have B6 := Below.step B5 b6
    clear b6 B5
    go_wp2_with fail
    refine (name_big _ _ (by simp [ByteArray.size]; omega) (by unfold maxLen; simp [ByteArray.size]; omega)).mono ?_
    rintro e w7 ⟨rfl, b7⟩
    have B7 := Below.step B6 b7
    clear b7 B6
    go_wp2_with fail
    refine (name_any _ _ (by rw [ByteArray.size_append, size_mk]; unfold maxLen; omega)).mono ?_
    rintro e w8 ⟨rfl, b8⟩
    have B8 := Below.step B7 b8
    clear b8 B7
    by_cases hmz : more.size = 0
    · have HNN : Hid (nameB (({ data := l.toArray } : ByteArray) ++ more) = true) := by
        obtain rfl : more = ⟨#[]⟩ := by cases more with | mk d => simp [ByteArray.size] at hmz; rw [hmz]
        show _ = _
        rw [append_mk]; simpa using HNM.out
      rw [HNN.out]
      go_wp2_with fail
      go_ret
      exact ⟨rfl, B8⟩
    · have hne : more.toList.isEmpty = false := by
        rw [← Bool.not_eq_true, isEmpty_size]; exact hmz
      have hne2 : ¬ more.toList = [] := by simpa using hne
      cases nameB (({ data := l.toArray } : ByteArray) ++ more)
      all_goals
        go_wp2_with fail
        go_ret
        exact ⟨rfl, B8⟩
  · have t97 : decide (97 ≤ (u.toNat : Int)) = true := by simp; omega
    have t122 : decide ((u.toNat : Int) ≤ 122) = false := by simp; omega
    have hk0 : decide (0 < k) = false := by simp; omega
    have t48 : decide (48 ≤ (u.toNat : Int)) = true := by simp; omega
    have t57 : decide ((u.toNat : Int) ≤ 57) = false := by simp; omega
    have t95 : ((u.toNat : Int) == 95) = false := by simp; omega
    have HOK : Hid (okAt k (u.toNat : Int) = false) := by show _ = _; simp only [okAt, smallB, digitB]; simp; omega
    clear a2
    go_wp2_with fail
    refine (name_any _ _ (by rw [size_mk]; unfold maxLen; omega)).mono ?_
    rintro e w4 ⟨rfl, b4⟩
    rw [HNM.out]
    have BY4 := HBY.out.on (b4.block _ HBY.out.lt)
    have hback := conv_back w4 w2.heap.size cap (l.set k u) BY4
    rw [List.length_set] at hback
    have B4 := Below.step B3 b4
    clear b4 BY4
    go_wp2_with fail
    refine (name_any _ _ (by rw [size_mk, List.length_set]; unfold maxLen; omega)).mono ?_
    rintro e w5 ⟨rfl, b5⟩
    rw [HSK.out, HOK.out]
    have B5 := Below.step B4 b5
    clear b5 hback B4
    go_wp2_with fail
    refine (name_any _ _ (by unfold maxLen; decide)).mono ?_
    rintro e w6 ⟨rfl, b6⟩
    rw [name_none]
    have B6 := Below.step B5 b6
    clear b6 B5
    go_wp2_with fail
    refine (name_big _ _ (by simp [ByteArray.size]; omega) (by unfold maxLen; simp [ByteArray.size]; omega)).mono ?_
    rintro e w7 ⟨rfl, b7⟩
    have B7 := Below.step B6 b7
    clear b7 B6
    go_wp2_with fail
    refine (name_any _ _ (by rw [ByteArray.size_append, size_mk]; unfold maxLen; omega)).mono ?_
    rintro e w8 ⟨rfl, b8⟩
    have B8 := Below.step B7 b8
    clear b8 B7
    by_cases hmz : more.size = 0
    · have HNN : Hid (nameB (({ data := l.toArray } : ByteArray) ++ more) = true) := by
        obtain rfl : more = ⟨#[]⟩ := by cases more with | mk d => simp [ByteArray.size] at hmz; rw [hmz]
        show _ = _
        rw [append_mk]; simpa using HNM.out
      rw [HNN.out]
      go_wp2_with fail
      go_ret
      exact ⟨rfl, B8⟩
    · have hne : more.toList.isEmpty = false := by
        rw [← Bool.not_eq_true, isEmpty_size]; exact hmz
      have hne2 : ¬ more.toList = [] := by simpa using hne
      cases nameB (({ data := l.toArray } : ByteArray) ++ more)
      all_goals
        go_wp2_with fail
        go_ret
        exact ⟨rfl, B8⟩
  · have t97 : decide (97 ≤ (u.toNat : Int)) = true := by simp; omega
    have t122 : decide ((u.toNat : Int) ≤ 122) = false := by simp; omega
    have hk1 : decide (0 < k) = true := by simp; omega
    have t48 : decide (48 ≤ (u.toNat : Int)) = true := by simp; omega
    have t57 : decide ((u.toNat : Int) ≤ 57) = false := by simp; omega
    have t95 : ((u.toNat : Int) == 95) = false := by simp; omega
    have HOK : Hid (okAt k (u.toNat : Int) = false) := by show _ = _; simp only [okAt, smallB, digitB]; simp; omega
    go_wp2_with fail
    refine (name_any _ _ (by rw [size_mk]; unfold maxLen; omega)).mono ?_
    rintro e w4 ⟨rfl, b4⟩
    rw [HNM.out]
    have BY4 := HBY.out.on (b4.block _ HBY.out.lt)
    have hback := conv_back w4 w2.heap.size cap (l.set k u) BY4
    rw [List.length_set] at hback
    have B4 := Below.step B3 b4
    clear b4 BY4
    go_wp2_with fail
    refine (name_any _ _ (by rw [size_mk, List.length_set]; unfold maxLen; omega)).mono ?_
    rintro e w5 ⟨rfl, b5⟩
    rw [HSK.out, HOK.out]
    have B5 := Below.step B4 b5
    clear b5 hback B4
    go_wp2_with fail
    refine (name_any _ _ (by unfold maxLen; decide)).mono ?_
    rintro e w6 ⟨rfl, b6⟩
    rw [name_none]
    have B6 := Below.step B5 b6
    clear b6 B5
    go_wp2_with fail
    refine (name_big _ _ (by simp [ByteArray.size]; omega) (by unfold maxLen; simp [ByteArray.size]; omega)).mono ?_
    rintro e w7 ⟨rfl, b7⟩
    have B7 := Below.step B6 b7
    clear b7 B6
    go_wp2_with fail
    refine (name_any _ _ (by rw [ByteArray.size_append, size_mk]; unfold maxLen; omega)).mono ?_
    rintro e w8 ⟨rfl, b8⟩
    have B8 := Below.step B7 b8
    clear b8 B7
    by_cases hmz : more.size = 0
    · have HNN : Hid (nameB (({ data := l.toArray } : ByteArray) ++ more) = true) := by
        obtain rfl : more = ⟨#[]⟩ := by cases more with | mk d => simp [ByteArray.size] at hmz; rw [hmz]
        show _ = _
        rw [append_mk]; simpa using HNM.out
      rw [HNN.out]
      go_wp2_with fail
      go_ret
      exact ⟨rfl, B8⟩
    · have hne : more.toList.isEmpty = false := by
        rw [← Bool.not_eq_true, isEmpty_size]; exact hmz
      have hne2 : ¬ more.toList = [] := by simpa using hne
      cases nameB (({ data := l.toArray } : ByteArray) ++ more)
      all_goals
        go_wp2_with fail
        go_ret
        exact ⟨rfl, B8⟩
  · have t97 : decide (97 ≤ (u.toNat : Int)) = false := by simp; omega
    have hk0 : decide (0 < k) = false := by simp; omega
    have HOK : Hid (okAt k (u.toNat : Int) = false) := by show _ = _; simp only [okAt, smallB, digitB]; simp; omega
    clear a2
    go_wp2_with fail
    refine (name_any _ _ (by rw [size_mk]; unfold maxLen; omega)).mono ?_
    rintro e w4 ⟨rfl, b4⟩
    rw [HNM.out]
    have BY4 := HBY.out.on (b4.block _ HBY.out.lt)
    have hback := conv_back w4 w2.heap.size cap (l.set k u) BY4
    rw [List.length_set] at hback
    have B4 := Below.step B3 b4
    clear b4 BY4
    go_wp2_with fail
    refine (name_any _ _ (by rw [size_mk, List.length_set]; unfold maxLen; omega)).mono ?_
    rintro e w5 ⟨rfl, b5⟩
    rw [HSK.out, HOK.out]
    have B5 := Below.step B4 b5
    clear b5 hback B4
    go_wp2_with fail
    refine (name_any _ _ (by unfold maxLen; decide)).mono ?_
    rintro e w6 ⟨rfl, b6⟩
    rw [name_none]
    have B6 := Below.step B5 b6
    clear b6 B5
    go_wp2_with fail
    refine (name_big _ _ (by simp [ByteArray.size]; omega) (by unfold maxLen; simp [ByteArray.size]; omega)).mono ?_
    rintro e w7 ⟨rfl, b7⟩
    have B7 := Below.step B6 b7
    clear b7 B6
    go_wp2_with fail
    refine (name_any _ _ (by rw [ByteArray.size_append, size_mk]; unfold maxLen; omega)).mono ?_
    rintro e w8 ⟨rfl, b8⟩
    have B8 := Below.step B7 b8
    clear b8 B7
    by_cases hmz : more.size = 0
    · have HNN : Hid (nameB (({ data := l.toArray } : ByteArray) ++ more) = true) := by
        obtain rfl : more = ⟨#[]⟩ := by cases more with | mk d => simp [ByteArray.size] at hmz; rw [hmz]
        show _ = _
        rw [append_mk]; simpa using HNM.out
      rw [HNN.out]
      go_wp2_with fail
      go_ret
      exact ⟨rfl, B8⟩
    · have hne : more.toList.isEmpty = false := by
        rw [← Bool.not_eq_true, isEmpty_size]; exact hmz
      have hne2 : ¬ more.toList = [] := by simpa using hne
      cases nameB (({ data := l.toArray } : ByteArray) ++ more)
      all_goals
        go_wp2_with fail
        go_ret
        exact ⟨rfl, B8⟩
  · have t97 : decide (97 ≤ (u.toNat : Int)) = false := by simp; omega
    have hk1 : decide (0 < k) = true := by simp; omega
    have t48 : decide (48 ≤ (u.toNat : Int)) = false := by simp; omega
    have t95 : ((u.toNat : Int) == 95) = false := by simp; omega
    have HOK : Hid (okAt k (u.toNat : Int) = false) := by show _ = _; simp only [okAt, smallB, digitB]; simp; omega
    go_wp2_with fail
    refine (name_any _ _ (by rw [size_mk]; unfold maxLen; omega)).mono ?_
    rintro e w4 ⟨rfl, b4⟩
    rw [HNM.out]
    have BY4 := HBY.out.on (b4.block _ HBY.out.lt)
    have hback := conv_back w4 w2.heap.size cap (l.set k u) BY4
    rw [List.length_set] at hback
    have B4 := Below.step B3 b4
    clear b4 BY4
    go_wp2_with fail
    refine (name_any _ _ (by rw [size_mk, List.length_set]; unfold maxLen; omega)).mono ?_
    rintro e w5 ⟨rfl, b5⟩
    rw [HSK.out, HOK.out]
    have B5 := Below.step B4 b5
    clear b5 hback B4
    go_wp2_with fail
    refine (name_any _ _ (by unfold maxLen; decide)).mono ?_
    rintro e w6 ⟨rfl, b6⟩
    rw [name_none]
    have B6 := Below.step B5 b6
    clear b6 B5
    go_wp2_with fail
    refine (name_big _ _ (by simp [ByteArray.size]; omega) (by unfold maxLen; simp [ByteArray.size]; omega)).mono ?_
    rintro e w7 ⟨rfl, b7⟩
    have B7 := Below.step B6 b7
    clear b7 B6
    go_wp2_with fail
    refine (name_any _ _ (by rw [ByteArray.size_append, size_mk]; unfold maxLen; omega)).mono ?_
    rintro e w8 ⟨rfl, b8⟩
    have B8 := Below.step B7 b8
    clear b8 B7
    by_cases hmz : more.size = 0
    · have HNN : Hid (nameB (({ data := l.toArray } : ByteArray) ++ more) = true) := by
        obtain rfl : more = ⟨#[]⟩ := by cases more with | mk d => simp [ByteArray.size] at hmz; rw [hmz]
        show _ = _
        rw [append_mk]; simpa using HNM.out
      rw [HNN.out]
      go_wp2_with fail
      go_ret
      exact ⟨rfl, B8⟩
    · have hne : more.toList.isEmpty = false := by
        rw [← Bool.not_eq_true, isEmpty_size]; exact hmz
      have hne2 : ¬ more.toList = [] := by simpa using hne
      cases nameB (({ data := l.toArray } : ByteArray) ++ more)
      all_goals
        go_wp2_with fail
        go_ret
        exact ⟨rfl, B8⟩
  · have t97 : decide (97 ≤ (u.toNat : Int)) = false := by simp; omega
    have hk1 : decide (0 < k) = true := by simp; omega
    have t48 : decide (48 ≤ (u.toNat : Int)) = true := by simp; omega
    have t57 : decide ((u.toNat : Int) ≤ 57) = true := by simp; omega
    have HOK : Hid (okAt k (u.toNat : Int) = true) := by show _ = _; simp only [okAt, smallB, digitB]; simp; omega
    go_wp2_with fail
    refine (name_any _ _ (by rw [size_mk]; unfold maxLen; omega)).mono ?_
    rintro e w4 ⟨rfl, b4⟩
    rw [HNM.out]
    have BY4 := HBY.out.on (b4.block _ HBY.out.lt)
    have hback := conv_back w4 w2.heap.size cap (l.set k u) BY4
    rw [List.length_set] at hback
    have B4 := Below.step B3 b4
    clear b4 BY4
    go_wp2_with fail
    refine (name_any _ _ (by rw [size_mk, List.length_set]; unfold maxLen; omega)).mono ?_
    rintro e w5 ⟨rfl, b5⟩
    rw [HSK.out, HOK.out]
    have B5 := Below.step B4 b5
    clear b5 hback B4
    go_wp2_with fail
    refine (name_any _ _ (by unfold maxLen; decide)).mono ?_
    rintro e w6 ⟨rfl, b6⟩
    rw [name_none]
    have B6 := Below.step B5 b6
    clear b6 B5
    go_wp2_with fail
    refine (name_big _ _ (by simp [ByteArray.size]; omega) (by unfold maxLen; simp [ByteArray.size]; omega)).mono ?_
    rintro e w7 ⟨rfl, b7⟩
    have B7 := Below.step B6 b7
    clear b7 B6
    go_wp2_with fail
    refine (name_any _ _ (by rw [ByteArray.size_append, size_mk]; unfold maxLen; omega)).mono ?_
    rintro e w8 ⟨rfl, b8⟩
    have B8 := Below.step B7 b8
    clear b8 B7
    by_cases hmz : more.size = 0
    · have HNN : Hid (nameB (({ data := l.toArray } : ByteArray) ++ more) = true) := by
        obtain rfl : more = ⟨#[]⟩ := by cases more with | mk d => simp [ByteArray.size] at hmz; rw [hmz]
        show _ = _
        rw [append_mk]; simpa using HNM.out
      rw [HNN.out]
      go_wp2_with fail
      go_ret
      exact ⟨rfl, B8⟩
    · have hne : more.toList.isEmpty = false := by
        rw [← Bool.not_eq_true, isEmpty_size]; exact hmz
      have hne2 : ¬ more.toList = [] := by simpa using hne
      cases nameB (({ data := l.toArray } : ByteArray) ++ more)
      all_goals
        go_wp2_with fail
        go_ret
        exact ⟨rfl, B8⟩
  · have t97 : decide (97 ≤ (u.toNat : Int)) = false := by simp; omega
    have hk1 : decide (0 < k) = true := by simp; omega
    have t48 : decide (48 ≤ (u.toNat : Int)) = true := by simp; omega
    have t57 : decide ((u.toNat : Int) ≤ 57) = false := by simp; omega
    have t95 : ((u.toNat : Int) == 95) = true := by simp; omega
    have HA := Lib.hid a1; clear a1
    have HOK : Hid (okAt k (u.toNat : Int) = true) := by show _ = _; simp only [okAt, smallB, digitB]; simp; have := HA.out; omega
    go_wp2_with fail
    refine (name_any _ _ (by rw [size_mk]; unfold maxLen; omega)).mono ?_
    rintro e w4 ⟨rfl, b4⟩
    rw [HNM.out]
    have BY4 := HBY.out.on (b4.block _ HBY.out.lt)
    have hback := conv_back w4 w2.heap.size cap (l.set k u) BY4
    rw [List.length_set] at hback
    have B4 := Below.step B3 b4
    clear b4 BY4
    go_wp2_with fail
    refine (name_any _ _ (by rw [size_mk, List.length_set]; unfold maxLen; omega)).mono ?_
    rintro e w5 ⟨rfl, b5⟩
    rw [HSK.out, HOK.out]
    have B5 := Below.step B4 b5
    clear b5 hback B4
    go_wp2_with fail
    refine (name_any _ _ (by unfold maxLen; decide)).mono ?_
    rintro e w6 ⟨rfl, b6⟩
    rw [name_none]
    have B6 := Below.step B5 b6
    clear b6 B5
    go_wp2_with fail
    refine (name_big _ _ (by simp [ByteArray.size]; omega) (by unfold maxLen; simp [ByteArray.size]; omega)).mono ?_
    rintro e w7 ⟨rfl, b7⟩
    have B7 := Below.step B6 b7
    clear b7 B6
    go_wp2_with fail
    refine (name_any _ _ (by rw [ByteArray.size_append, size_mk]; unfold maxLen; omega)).mono ?_
    rintro e w8 ⟨rfl, b8⟩
    have B8 := Below.step B7 b8
    clear b8 B7
    by_cases hmz : more.size = 0
    · have HNN : Hid (nameB (({ data := l.toArray } : ByteArray) ++ more) = true) := by
        obtain rfl : more = ⟨#[]⟩ := by cases more with | mk d => simp [ByteArray.size] at hmz; rw [hmz]
        show _ = _
        rw [append_mk]; simpa using HNM.out
      rw [HNN.out]
      go_wp2_with fail
      go_ret
      exact ⟨rfl, B8⟩
    · have hne : more.toList.isEmpty = false := by
        rw [← Bool.not_eq_true, isEmpty_size]; exact hmz
      have hne2 : ¬ more.toList = [] := by simpa using hne
      cases nameB (({ data := l.toArray } : ByteArray) ++ more)
      all_goals
        go_wp2_with fail
        go_ret
        exact ⟨rfl, B8⟩
  · have t97 : decide (97 ≤ (u.toNat : Int)) = false := by simp; omega
    have hk1 : decide (0 < k) = true := by simp; omega
    have t48 : decide (48 ≤ (u.toNat : Int)) = true := by simp; omega
    have t57 : decide ((u.toNat : Int) ≤ 57) = false := by simp; omega
    have t95 : ((u.toNat : Int) == 95) = false := by simp; omega
    have HOK : Hid (okAt k (u.toNat : Int) = false) := by show _ = _; simp only [okAt, smallB, digitB]; simp; omega
    go_wp2_with fail
    refine (name_any _ _ (by rw [size_mk]; unfold maxLen; omega)).mono ?_
    rintro e w4 ⟨rfl, b4⟩
    rw [HNM.out]
    have BY4 := HBY.out.on (b4.block _ HBY.out.lt)
    have hback := conv_back w4 w2.heap.size cap (l.set k u) BY4
    rw [List.length_set] at hback
    have B4 := Below.step B3 b4
    clear b4 BY4
    go_wp2_with fail
    refine (name_any _ _ (by rw [size_mk, List.length_set]; unfold maxLen; omega)).mono ?_
    rintro e w5 ⟨rfl, b5⟩
    rw [HSK.out, HOK.out]
    have B5 := Below.step B4 b5
    clear b5 hback B4
    go_wp2_with fail
    refine (name_any _ _ (by unfold maxLen; decide)).mono ?_
    rintro e w6 ⟨rfl, b6⟩
    rw [name_none]
    have B6 := Below.step B5 b6
    clear b6 B5
    go_wp2_with fail
    refine (name_big _ _ (by simp [ByteArray.size]; omega) (by unfold maxLen; simp [ByteArray.size]; omega)).mono ?_
    rintro e w7 ⟨rfl, b7⟩
    have B7 := Below.step B6 b7
    clear b7 B6
    go_wp2_with fail
    refine (name_any _ _ (by rw [ByteArray.size_append, size_mk]; unfold maxLen; omega)).mono ?_
    rintro e w8 ⟨rfl, b8⟩
    have B8 := Below.step B7 b8
    clear b8 B7
    by_cases hmz : more.size = 0
    · have HNN : Hid (nameB (({ data := l.toArray } : ByteArray) ++ more) = true) := by
        obtain rfl : more = ⟨#[]⟩ := by cases more with | mk d => simp [ByteArray.size] at hmz; rw [hmz]
        show _ = _
        rw [append_mk]; simpa using HNM.out
      rw [HNN.out]
      go_wp2_with fail
      go_ret
      exact ⟨rfl, B8⟩
    · have hne : more.toList.isEmpty = false := by
        rw [← Bool.not_eq_true, isEmpty_size]; exact hmz
      have hne2 : ¬ more.toList = [] := by simpa using hne
      cases nameB (({ data := l.toArray } : ByteArray) ++ more)
      all_goals
        go_wp2_with fail
        go_ret
        exact ⟨rfl, B8⟩

end Go.Proofs.YtagehmcnihebdaaDoor.valueNames
