/-
  RfSmall
-/
import Derived.Test.YtgjemmdhamkngaaGreatDoorK18
import Derived.Test.YtgjemmdhamkngaaGreatDoorKG01
import Derived.Test.YtgjemmdhamkngaaGreatDoorK06
namespace Go.Proofs.YtgjemmdhamkngaaGreatDoor
open Go.RowKit
set_option maxRecDepth 100000 in
set_option maxHeartbeats 4000000 in
theorem refUpper_any (s : ByteArray) (w : World) (hs : s.size ≤ maxLen) :
    Calls Tryz.prog 95 #[.string s] w fun e w' => e = .returned (.bool (varB s)) ∧ w = w' := by
  unfold maxLen at hs
  by_cases hz : s.size < 1
  · have HF := Lib.hid (varB_size (s := s) (Or.inl hz))
    have hb1 : decide ((s.size : Int) < 1) = true := by simp; omega
    go_enter Tryz.func95, Tryz.ntmps95
    go_wp2_with fail
    go_ret
    exact ⟨ret_bool HF.out.symm, rfl⟩
  have hb1 : decide ((s.size : Int) < 1) = false := by simp; omega
  by_cases hz2 : 16 < s.size
  · have HF := Lib.hid (varB_size (s := s) (Or.inr hz2))
    have hb2 : decide (16 < (s.size : Int)) = true := by simp; omega
    go_enter Tryz.func95, Tryz.ntmps95
    go_wp2_with fail
    go_ret
    exact ⟨ret_bool HF.out.symm, rfl⟩
  have hb2 : decide (16 < (s.size : Int)) = false := by simp; omega
  have h0 : 0 < s.size := by omega
  have h0u : (s[0].toNat : Int) ≤ 255 := by have := s[0].toNat_lt; omega
  by_cases hc : 65 ≤ (s[0].toNat : Int) ∧ (s[0].toNat : Int) ≤ 90
  · obtain ⟨hc1, hc2⟩ := hc
    have H0 : Hid (okVar 0 (s[0].toNat : Int) = true) := by show _ = _; simp only [okVar, greatB]; simp; omega
    have t1 : decide ((s[0].toNat : Int) < 65) = false := by simp; omega
    have t2 : decide (90 < (s[0].toNat : Int)) = false := by simp; omega
    go_enter Tryz.func95, Tryz.ntmps95
    go_wp2_with fail
    go_loop [3, 4] (fun i _ => ∃ k : Nat, 1 ≤ k ∧ k ≤ s.size ∧ i = .int .i64 k ∧ Hid (∀ i (h : i < s.size), i < k → okVar i (s[i].toNat : Int) = true)) (fun i _ => s.size - (intOf i).toNat)
    case atStart => exact ⟨1, Nat.le_refl _, by omega, rfl, fun i _ hi => by obtain rfl : i = 0 := by omega
                                                                             exact H0.out⟩
    case round =>
      obtain ⟨k, hk1, hk2, rfl, hok⟩ := hrel
      clear t1 t2 hb1 hb2
      by_cases hlt : k < s.size
      · have hcd : ∃ c : UInt8, s[k] = c := ⟨_, rfl⟩
        obtain ⟨c, hcd⟩ := hcd
        have HC := Lib.hid hcd
        have hcu : (c.toNat : Int) ≤ 255 := by have := c.toNat_lt; omega
        have hcases : (0 ≤ (c.toNat : Int) ∧ (c.toNat : Int) ≤ 47) ∨ (48 ≤ (c.toNat : Int) ∧ (c.toNat : Int) ≤ 57) ∨ (58 ≤ (c.toNat : Int) ∧ (c.toNat : Int) ≤ 64) ∨ (65 ≤ (c.toNat : Int) ∧ (c.toNat : Int) ≤ 90) ∨ (91 ≤ (c.toNat : Int) ∧ (c.toNat : Int) ≤ 94) ∨ (95 ≤ (c.toNat : Int) ∧ (c.toNat : Int) ≤ 95) ∨ (96 ≤ (c.toNat : Int) ∧ (c.toNat : Int) ≤ 96) ∨ (97 ≤ (c.toNat : Int) ∧ (c.toNat : Int) ≤ 122) ∨ (123 ≤ (c.toNat : Int) ∧ (c.toNat : Int) ≤ 255) := by omega
        rcases hcases with ⟨a1, a2⟩ | ⟨a1, a2⟩ | ⟨a1, a2⟩ | ⟨a1, a2⟩ | ⟨a1, a2⟩ | ⟨a1, a2⟩ | ⟨a1, a2⟩ | ⟨a1, a2⟩ | ⟨a1, a2⟩
        · have t97 : decide (97 ≤ (c.toNat : Int)) = false := by simp; omega
          have t122 : decide ((c.toNat : Int) ≤ 122) = true := by simp; omega
          have t65 : decide (65 ≤ (c.toNat : Int)) = false := by simp; omega
          have t90 : decide ((c.toNat : Int) ≤ 90) = true := by simp; omega
          have t48 : decide (48 ≤ (c.toNat : Int)) = false := by simp; omega
          have t57 : decide ((c.toNat : Int) ≤ 57) = true := by simp; omega
          have t95 : ((c.toNat : Int) == 95) = false := by simp; omega
          have HOK : Hid (okVar k (c.toNat : Int) = false) := by show _ = _; simp only [okVar, greatB, smallB, digitB]; simp; omega
          clear a1 a2
          go_wp2_with fail
          go_ret
          exact ⟨ret_bool (varB_false hlt (by rw [HC.out]; exact HOK.out)).symm, rfl⟩
        · have t97 : decide (97 ≤ (c.toNat : Int)) = false := by simp; omega
          have t122 : decide ((c.toNat : Int) ≤ 122) = true := by simp; omega
          have t65 : decide (65 ≤ (c.toNat : Int)) = false := by simp; omega
          have t90 : decide ((c.toNat : Int) ≤ 90) = true := by simp; omega
          have t48 : decide (48 ≤ (c.toNat : Int)) = true := by simp; omega
          have t57 : decide ((c.toNat : Int) ≤ 57) = true := by simp; omega
          have t95 : ((c.toNat : Int) == 95) = false := by simp; omega
          have HOK : Hid (okVar k (c.toNat : Int) = true) := by show _ = _; simp only [okVar, greatB, smallB, digitB]; simp; omega
          clear a1 a2
          go_wp2_with fail
          go_round
          case rel =>
            refine ⟨k + 1, by omega, by omega, by go_num, fun i hi hi2 => ?_⟩
            by_cases e : i = k
            · subst e; rw [HC.out]; exact HOK.out
            · exact hok.out i hi (by omega)
          case measure => simp [intOf]; omega
        · have t97 : decide (97 ≤ (c.toNat : Int)) = false := by simp; omega
          have t122 : decide ((c.toNat : Int) ≤ 122) = true := by simp; omega
          have t65 : decide (65 ≤ (c.toNat : Int)) = false := by simp; omega
          have t90 : decide ((c.toNat : Int) ≤ 90) = true := by simp; omega
          have t48 : decide (48 ≤ (c.toNat : Int)) = true := by simp; omega
          have t57 : decide ((c.toNat : Int) ≤ 57) = false := by simp; omega
          have t95 : ((c.toNat : Int) == 95) = false := by simp; omega
          have HOK : Hid (okVar k (c.toNat : Int) = false) := by show _ = _; simp only [okVar, greatB, smallB, digitB]; simp; omega
          clear a1 a2
          go_wp2_with fail
          go_ret
          exact ⟨ret_bool (varB_false hlt (by rw [HC.out]; exact HOK.out)).symm, rfl⟩
        · have t97 : decide (97 ≤ (c.toNat : Int)) = false := by simp; omega
          have t122 : decide ((c.toNat : Int) ≤ 122) = true := by simp; omega
          have t65 : decide (65 ≤ (c.toNat : Int)) = true := by simp; omega
          have t90 : decide ((c.toNat : Int) ≤ 90) = true := by simp; omega
          have t48 : decide (48 ≤ (c.toNat : Int)) = true := by simp; omega
          have t57 : decide ((c.toNat : Int) ≤ 57) = false := by simp; omega
          have t95 : ((c.toNat : Int) == 95) = false := by simp; omega
          have HOK : Hid (okVar k (c.toNat : Int) = true) := by show _ = _; simp only [okVar, greatB, smallB, digitB]; simp; omega
          clear a1 a2
          go_wp2_with fail
          go_round
          case rel =>
            refine ⟨k + 1, by omega, by omega, by go_num, fun i hi hi2 => ?_⟩
            by_cases e : i = k
            · subst e; rw [HC.out]; exact HOK.out
            · exact hok.out i hi (by omega)
          case measure => simp [intOf]; omega
        · have t97 : decide (97 ≤ (c.toNat : Int)) = false := by simp; omega
          have t122 : decide ((c.toNat : Int) ≤ 122) = true := by simp; omega
          have t65 : decide (65 ≤ (c.toNat : Int)) = true := by simp; omega
          have t90 : decide ((c.toNat : Int) ≤ 90) = false := by simp; omega
          have t48 : decide (48 ≤ (c.toNat : Int)) = true := by simp; omega
          have t57 : decide ((c.toNat : Int) ≤ 57) = false := by simp; omega
          have t95 : ((c.toNat : Int) == 95) = false := by simp; omega
          have HOK : Hid (okVar k (c.toNat : Int) = false) := by show _ = _; simp only [okVar, greatB, smallB, digitB]; simp; omega
          clear a1 a2
          go_wp2_with fail
          go_ret
          exact ⟨ret_bool (varB_false hlt (by rw [HC.out]; exact HOK.out)).symm, rfl⟩
        · have t97 : decide (97 ≤ (c.toNat : Int)) = false := by simp; omega
          have t122 : decide ((c.toNat : Int) ≤ 122) = true := by simp; omega
          have t65 : decide (65 ≤ (c.toNat : Int)) = true := by simp; omega
          have t90 : decide ((c.toNat : Int) ≤ 90) = false := by simp; omega
          have t48 : decide (48 ≤ (c.toNat : Int)) = true := by simp; omega
          have t57 : decide ((c.toNat : Int) ≤ 57) = false := by simp; omega
          have t95 : ((c.toNat : Int) == 95) = true := by simp; omega
          have HOK : Hid (okVar k (c.toNat : Int) = true) := by show _ = _; simp only [okVar, greatB, smallB, digitB]; simp; omega
          clear a1 a2
          go_wp2_with fail
          go_round
          case rel =>
            refine ⟨k + 1, by omega, by omega, by go_num, fun i hi hi2 => ?_⟩
            by_cases e : i = k
            · subst e; rw [HC.out]; exact HOK.out
            · exact hok.out i hi (by omega)
          case measure => simp [intOf]; omega
        · have t97 : decide (97 ≤ (c.toNat : Int)) = false := by simp; omega
          have t122 : decide ((c.toNat : Int) ≤ 122) = true := by simp; omega
          have t65 : decide (65 ≤ (c.toNat : Int)) = true := by simp; omega
          have t90 : decide ((c.toNat : Int) ≤ 90) = false := by simp; omega
          have t48 : decide (48 ≤ (c.toNat : Int)) = true := by simp; omega
          have t57 : decide ((c.toNat : Int) ≤ 57) = false := by simp; omega
          have t95 : ((c.toNat : Int) == 95) = false := by simp; omega
          have HOK : Hid (okVar k (c.toNat : Int) = false) := by show _ = _; simp only [okVar, greatB, smallB, digitB]; simp; omega
          clear a1 a2
          go_wp2_with fail
          go_ret
          exact ⟨ret_bool (varB_false hlt (by rw [HC.out]; exact HOK.out)).symm, rfl⟩
        · have t97 : decide (97 ≤ (c.toNat : Int)) = true := by simp; omega
          have t122 : decide ((c.toNat : Int) ≤ 122) = true := by simp; omega
          have t65 : decide (65 ≤ (c.toNat : Int)) = true := by simp; omega
          have t90 : decide ((c.toNat : Int) ≤ 90) = false := by simp; omega
          have t48 : decide (48 ≤ (c.toNat : Int)) = true := by simp; omega
          have t57 : decide ((c.toNat : Int) ≤ 57) = false := by simp; omega
          have t95 : ((c.toNat : Int) == 95) = false := by simp; omega
          have HOK : Hid (okVar k (c.toNat : Int) = true) := by show _ = _; simp only [okVar, greatB, smallB, digitB]; simp; omega
          clear a1 a2
          go_wp2_with fail
          go_round
          case rel =>
            refine ⟨k + 1, by omega, by omega, by go_num, fun i hi hi2 => ?_⟩
            by_cases e : i = k
            · subst e; rw [HC.out]; exact HOK.out
            · exact hok.out i hi (by omega)
          case measure => simp [intOf]; omega
        · have t97 : decide (97 ≤ (c.toNat : Int)) = true := by simp; omega
          have t122 : decide ((c.toNat : Int) ≤ 122) = false := by simp; omega
          have t65 : decide (65 ≤ (c.toNat : Int)) = true := by simp; omega
          have t90 : decide ((c.toNat : Int) ≤ 90) = false := by simp; omega
          have t48 : decide (48 ≤ (c.toNat : Int)) = true := by simp; omega
          have t57 : decide ((c.toNat : Int) ≤ 57) = false := by simp; omega
          have t95 : ((c.toNat : Int) == 95) = false := by simp; omega
          have HOK : Hid (okVar k (c.toNat : Int) = false) := by show _ = _; simp only [okVar, greatB, smallB, digitB]; simp; omega
          clear a1 a2
          go_wp2_with fail
          go_ret
          exact ⟨ret_bool (varB_false hlt (by rw [HC.out]; exact HOK.out)).symm, rfl⟩
      · have HF := Lib.hid (varB_true (s := s) (by omega) (by omega) (fun i hi => hok.out i hi (by omega)))
        go_wp2_with fail
        go_ret
        exact ⟨ret_bool HF.out.symm, rfl⟩
  · have H0 : Hid (varB s = false) := varB_false h0 (by simp only [okVar, greatB]; simp; omega)
    by_cases h65 : (s[0].toNat : Int) < 65
    · have t1 : decide ((s[0].toNat : Int) < 65) = true := by simp; omega
      go_enter Tryz.func95, Tryz.ntmps95
      go_wp2_with fail
      go_ret
      exact ⟨ret_bool H0.out.symm, rfl⟩
    · have t1 : decide ((s[0].toNat : Int) < 65) = false := by simp; omega
      have t2 : decide (90 < (s[0].toNat : Int)) = true := by simp; omega
      go_enter Tryz.func95, Tryz.ntmps95
      go_wp2_with fail
      go_ret
      exact ⟨ret_bool H0.out.symm, rfl⟩
set_option maxRecDepth 100000 in
set_option maxHeartbeats 4000000 in
theorem refRelation_any (s : ByteArray) (w : World) (hs : s.size ≤ maxLen) : Calls Tryz.prog 35 #[.string s] w fun e w' => e = .returned (.bool (relB s)) ∧ w = w' := by
 cases h1 : nameB s with
 | false =>
  have HF : Hid (relB s = false) := by show _ = _; simp [relB, h1]
  have H1 := Lib.hid h1; clear h1
  go_enter Tryz.func35, Tryz.ntmps35
  go_wp2_with fail
  refine (refName_any s _ hs).mono ?_
  rw [H1.out]
  rintro e w1 ⟨rfl, rfl⟩
  go_wp2_with fail
  go_ret
  exact ⟨ret_bool HF.out.symm, rfl⟩
 | true =>
 have hfn : decide (fnArity (fnOf s) < 0) = !fnB s := by
  unfold fnB
  by_cases h : 0 ≤ fnArity (fnOf s)
  ·rw [decide_eq_true h, decide_eq_false (by omega)]; rfl
  ·rw [decide_eq_false h, decide_eq_true (by omega)]; rfl
 obtain ⟨an, han⟩ : ∃ n, fnArity (fnOf s) = n := ⟨_, rfl⟩
 have HAN := Lib.hid han
 rw [han] at hfn
 clear han
 cases h2 : fnB s with
 | true =>
  have HF : Hid (relB s = false) := by show _ = _; simp [relB, h1, h2]
  rw [h2] at hfn
  have H1 := Lib.hid h1; clear h1 h2
  simp only [Bool.not_true] at hfn
  go_enter Tryz.func35, Tryz.ntmps35
  go_wp2_with fail
  refine (refName_any s _ hs).mono ?_
  rw [H1.out]
  rintro e w1 ⟨rfl, rfl⟩
  go_wp2_with fail
  refine (refArity_any s _).mono ?_
  unfold ArPost
  rw [HAN.out]
  rintro e w2 ⟨rfl, rfl⟩
  go_wp2_with fail
  go_ret
  exact ⟨ret_bool HF.out.symm, rfl⟩
 | false =>
 rw [h2] at hfn
 simp only [Bool.not_false] at hfn
 cases h3 : declB s
 all_goals
  have HF := Lib.hid (show relB s = (!declB s) by simp [relB, h1, h2])
  have HF' := HF.out
  rw [h3] at HF'
  have HG := Lib.hid HF'
  have H1 := Lib.hid h1; unfold declB at h3; clear h1 h2 HF HF'
  go_enter Tryz.func35, Tryz.ntmps35
  go_wp2_with fail
  refine (refName_any s _ hs).mono ?_
  rw [H1.out]
  rintro e w1 ⟨rfl, rfl⟩
  go_wp2_with fail
  refine (refArity_any s _).mono ?_
  unfold ArPost
  rw [HAN.out]
  rintro e w2 ⟨rfl, rfl⟩
  go_wp2_with fail
  go_ret
  exact ⟨ret_bool HG.out.symm, rfl⟩
set_option maxRecDepth 100000 in
theorem refNone_any (x : V) (S : Nat → Prop) (w : World) (c0 c1 c2 c3 : Value) (hx : RepG S w x c0 c1 c2 c3) : Calls Tryz.prog 98 #[.agg #[c0, c1, c2, c3]] w fun e w' => e = .returned (.bool (noneB x)) ∧ Below w.heap.size w w' := by
 obtain ⟨fa, fc, rfl, rfl, rfl, rfl⟩ := hx.form
 clear hx
 cases h0 : (x.kind == 0) with
 | false =>
  have HF : Hid (noneB x = false) := by show _ = _; simp only [noneB, h0, Bool.false_and]
  go_enter Tryz.func98, Tryz.ntmps98
  go_wp2_with fail
  go_ret
  exact ⟨ret_bool HF.out.symm, below_alloc _ _⟩
 | true =>
 cases h1 : (x.num == 0) with
 | false =>
  have HF : Hid (noneB x = false) := by show _ = _; simp only [noneB, h0, h1, Bool.false_and, Bool.true_and]
  go_enter Tryz.func98, Tryz.ntmps98
  go_wp2_with fail
  go_ret
  exact ⟨ret_bool HF.out.symm, below_alloc _ _⟩
 | true =>
 cases h2 : (x.text.toList.isEmpty) with
 | false =>
  have HF : Hid (noneB x = false) := by show _ = _; simp only [noneB, h0, h1, h2, Bool.false_and, Bool.true_and]
  go_enter Tryz.func98, Tryz.ntmps98
  go_wp2_with fail
  go_ret
  exact ⟨ret_bool HF.out.symm, below_alloc _ _⟩
 | true =>
 have h3 := isEmpty_len x.list
 cases h4 : ((x.list.length : Int) == 0) with
 | false =>
  have HF : Hid (noneB x = false) := by show _ = _; simp only [noneB, h0, h1, h2, h3, h4, Bool.true_and]
  clear h3
  go_enter Tryz.func98, Tryz.ntmps98
  go_wp2_with fail
  go_ret
  exact ⟨ret_bool HF.out.symm, below_alloc _ _⟩
 | true =>
  have HF : Hid (noneB x = true) := by show _ = _; simp only [noneB, h0, h1, h2, h3, h4, Bool.true_and]
  clear h3
  go_enter Tryz.func98, Tryz.ntmps98
  go_wp2_with fail
  go_ret
  exact ⟨ret_bool HF.out.symm, below_alloc _ _⟩
def StrsAt (w : World) (b : Nat) (l : List ByteArray) : Prop := ∀ k (h : k < l.length), w.cell? ⟨b, k, none⟩ = some (.string l[k])
set_option maxRecDepth 100000 in
set_option maxHeartbeats 4000000 in
theorem refIn_any (l : List ByteArray) (s : ByteArray) (b : Nat) (w : World) (hb : StrsAt w b l) (hl : l.length ≤ 100) :
  Calls Tryz.prog 75 #[.slice (some ⟨b, 0, none⟩) l.length l.length, .string s] w fun e w' => e = .returned (.bool (l.any fun x => x.toList == s.toList)) ∧ w = w' := by
 have HB := Lib.hid hb; clear hb
 go_enter Tryz.func75, Tryz.ntmps75
 go_wp2_with fail
 go_loop [5] (fun i => ∃ k : Nat, k ≤ l.length ∧ i = .int .i64 k ∧ Hid ((l.any fun x => x.toList == s.toList) = ((l.drop k).any fun x => x.toList == s.toList))) (fun i => l.length - (intOf i).toNat)
 case atStart => exact ⟨0, Nat.zero_le _, rfl, rfl⟩
 case round =>
  obtain ⟨k, hk, rfl, hrec⟩ := hrel
  by_cases hlt : k < l.length
  ·have hc := HB.out k hlt
   have HD := Lib.hid (List.drop_eq_getElem_cons hlt)
   generalize l[k] = z at *
   cases h1 : (z.toList == s.toList) with
   | true =>
    have HF : Hid ((l.any fun x => x.toList == s.toList) = true) := by show _ = _; rw [hrec.out, HD.out, List.any_cons, h1, Bool.true_or]
    go_wp2_with fail
    go_ret
    exact ⟨ret_bool HF.out.symm, rfl⟩
   | false =>
    have HF : Hid ((l.any fun x => x.toList == s.toList) = ((l.drop (k + 1)).any fun x => x.toList == s.toList)) := by show _ = _; rw [hrec.out, HD.out, List.any_cons, h1, Bool.false_or]
    go_wp2_with fail
    go_round
    case rel => exact ⟨k + 1, by omega, by go_num, HF⟩
    case measure => simp [intOf]; omega
  ·have HF : Hid ((l.any fun x => x.toList == s.toList) = false) := by show _ = _; rw [hrec.out, List.drop_of_length_le (by omega)]; rfl
   go_wp2_with fail
   go_ret
   exact ⟨ret_bool HF.out.symm, rfl⟩
end Go.Proofs.YtgjemmdhamkngaaGreatDoor
