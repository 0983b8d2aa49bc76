/-
  LexerAgain: for every text the law returns true: tokens' texts, with a blank between, are scanned to the same tokens, but for their places; places rise.
-/
import Derived.Test.YtgkgnfafjbjbnaaDoorLexLaw
namespace Go.Proofs.YtgkgnfafjbjbnaaDoor.lexerAgain
open Go.ChangeShapes Go.WideShapes Go.ChangeAt Go.RowKit

theorem bytes_app (a b : ByteArray) : (a ++ b).data.toList = a.data.toList ++ b.data.toList := by
  rw [ByteArray.data_append, Array.toList_append]
theorem joinT_le : ∀ (l m : List Tok), (joinT l).length ≤ (joinT (l ++ m)).length := fun l m => by simp [joinT]
theorem joinT_take (l : List Tok) (k : Nat) : (joinT (l.take k)).length ≤ (joinT l).length := by
  have := joinT_le (l.take k) (l.drop k)
  rwa [List.take_append_drop] at this

set_option maxRecDepth 100000 in
set_option maxHeartbeats 16000000 in
theorem core (s : ByteArray) (W : World) (hok : SignsOk W) (hs : s.size ≤ 3000) (toks m : List Tok) (hscan : Hid (scanB s = .ok toks)) (hjoin : Hid ((joinT toks).length ≤ 6001)) (hrise : Hid (RiseFrom 1 1 toks)) (hagain : Hid (scanS 0 (joinT toks) 1 1 = .ok m)) (hstrip : Hid (m.map strip = toks.map strip)) (hcount : Hid (toks.length ≤ 6001)) :
    Calls Tryd.prog 8 #[.string s] W fun e W' => e = .returned (.bool true) ∧ Below W.heap.size W W' := by
  have HOK := Lib.hid hok
  have hg := signs_lt hok
  clear hok
  go_enter Tryd.func8, Tryd.ntmps8
  go_wp2_with fail
  refine (awake3_any _ hg HOK.out).mono ?_
  rintro e w1 ⟨rfl, b1⟩
  have hg1 := Nat.lt_of_lt_of_le hg b1.size
  have HOK1 := Lib.hid (HOK.out.below hg b1)
  have B1 := Lib.hid b1
  clear b1
  go_wp2_with fail
  refine (scan_any s _ (by unfold maxLen; omega) hg1 HOK1.out).mono ?_
  rw [hscan.out]
  rintro e w2 ⟨v, rfl, ho, b2⟩
  have HT2 := Lib.hid ho.tok
  obtain ⟨va, vc, rfl⟩ := ho.form
  have B2 := Lib.hid (Below.step B1.out b2)
  clear ho b2
  go_wp2_with fail
  have b3 := stands_alloc w2 (.cells #[.int .i64 0, .int .i64 0] 48)
  generalize w2.alloc (.cells #[.int .i64 0, .int .i64 0] 48) = w3 at *
  have HT3 := Lib.hid (HT2.out.on b3)
  have B3 := Lib.hid (Below.step B2.out b3)
  clear b3 HT2 B2
  have hcn := hcount.out
  go_loopw [7, 8] (fun t i wr => ∃ (k : Nat) (tb : ByteArray), k ≤ toks.length ∧ t = .string tb ∧ Hid (tb.data.toList = joinT (toks.take k)) ∧ i = .int .i64 k ∧ Below w3.heap.size w3 wr) (fun _ i _ => toks.length - (intOf i).toNat)
  case atStart => exact ⟨0, ⟨#[]⟩, Nat.zero_le _, rfl, rfl, rfl, Below.refl _ _⟩
  case round =>
    obtain ⟨k, tb, hk, rfl, htb, rfl, hbel⟩ := hrel
    have HTR := Lib.hid (HT3.out.on hbel)
    have HBEL := Lib.hid hbel
    have htsz : tb.size ≤ 6001 := by
      have h1 := joinT_take toks k
      have h2 := hjoin.out
      have h3 := list_len tb
      rw [htb.out] at h3
      omega
    clear hbel
    by_cases hlt : k < toks.length
    · obtain ⟨a', cap', he, hcap, hat⟩ := HTR.out
      cases he
      obtain ⟨b, hb1, rfl, hc⟩ := hat (by omega)
      obtain ⟨q0, q1, q2, q3, q4⟩ := hc k hlt
      have HC := Lib.hid hc
      have HJ : Hid (joinT (toks.take (k + 1)) = joinT (toks.take k) ++ wordT toks[k] ++ [32]) := by show _ = _; rw [List.take_succ_eq_append_getElem hlt, joinT_snoc]
      have HR := Lib.hid (fun (k' : Nat) (h : k' + 1 < toks.length) => RiseFrom.at toks 1 1 k' hrise.out h)
      have hxl : toks[k].text.length ≤ 6001 := by
        have h1 := joinT_take toks (k + 1)
        have h2 := hjoin.out
        rw [HJ.out] at h1
        simp only [List.length_append, List.length_singleton, wordT] at h1
        split at h1
        · simp only [List.length_cons, List.length_append] at h1; omega
        · omega
      have hsz2 : (⟨(toks[k].text).toArray⟩ : ByteArray).size = toks[k].text.length := size_mk _
      clear hc hat
      generalize hx : toks[k] = x at *
      have HX := Lib.hid hx; clear hx
      by_cases h4 : x.kind = 4
      · have h4' : (x.kind == 4) = true := by simp [h4]
        have HW : Hid (wordT x = 34 :: (x.text ++ [34])) := by show _ = _; rw [wordT, if_pos h4]
        clear h4
        have HTB : Hid (((tb ++ ((⟨#[34]⟩ ++ ⟨x.text.toArray⟩) ++ ⟨#[34]⟩)) ++ ⟨#[32]⟩ : ByteArray).data.toList = joinT (toks.take (k + 1))) := by
          show _ = _
          rw [HJ.out, HW.out, bytes_app, bytes_app, bytes_app, bytes_app, htb.out]; simp
        go_wp2_with fail
        cases k with
        | zero =>
          go_quiet (fail)
          go_wp2_with fail
          go_roundw
          case rel => exact ⟨1, _, by omega, rfl, HTB, rfl, below_drewN HBEL.out _⟩
          case measure => (simp [intOf] <;> omega)
        | succ j =>
          obtain ⟨-, -, -, p3, p4⟩ := HC.out j (by omega)
          have hr := HR.out j (by omega)
          rw [HX.out] at hr
          generalize toks[j] = y at *
          have t0 : decide ((0 : Int) < (j : Int) + 1) = true := by rw [decide_eq_true_eq]; omega
          have hwr : IntKind.i64.wrap (j : Int) = (j : Int) := by rw [IntKind.wrap_i64]; omega
          have i0 : (0 : Int) ≤ (j : Int) := by omega
          have i2 : (j : Int) + 1 < (toks.length : Int) := by omega
          have i3 : (0 : Int) ≤ (j : Int) + 1 := by omega
          have i4 : ((j : Int) + 1).toNat = j + 1 := by omega
          have i5 : j < toks.length := by omega
          have hwr1 : IntKind.i64.wrap ((j : Int) + 1) = (j : Int) + 1 := by rw [IntKind.wrap_i64]; omega
          have i1 : (j : Int) < (toks.length : Int) := by omega
          rcases hr with hr | ⟨hr1, hr2⟩
          · have d1 : decide ((x.line : Int) < (y.line : Int)) = false := by rw [decide_eq_false_iff_not]; omega
            have d1n : decide (x.line < y.line) = false := by rw [decide_eq_false_iff_not]; omega
            have d2 : ((x.line : Int) == (y.line : Int)) = false := by rw [beq_eq_false_iff_ne]; omega
            have d2n : (x.line == y.line) = false := by rw [beq_eq_false_iff_ne]; omega
            clear hr
            go_quiet (fail)
            go_wp2_with fail
            go_roundw
            case rel => exact ⟨j + 1 + 1, _, by omega, rfl, HTB, by go_num, below_drewN HBEL.out _⟩
            case measure => (simp [intOf] <;> omega)
          · have d1 : decide ((x.line : Int) < (y.line : Int)) = false := by rw [decide_eq_false_iff_not]; omega
            have d1n : decide (x.line < y.line) = false := by rw [decide_eq_false_iff_not]; omega
            have d2 : ((x.line : Int) == (y.line : Int)) = true := by rw [beq_iff_eq]; omega
            have d2n : (x.line == y.line) = true := by rw [beq_iff_eq]; omega
            have d3 : decide ((x.col : Int) ≤ (y.col : Int)) = false := by rw [decide_eq_false_iff_not]; omega
            have d3n : decide (x.col ≤ y.col) = false := by rw [decide_eq_false_iff_not]; omega
            clear hr1 hr2
            go_quiet (fail)
            go_wp2_with fail
            go_roundw
            case rel => exact ⟨j + 1 + 1, _, by omega, rfl, HTB, by go_num, below_drewN HBEL.out _⟩
            case measure => (simp [intOf] <;> omega)
      · have h4' : (x.kind == 4) = false := by simp [h4]
        have HW : Hid (wordT x = x.text) := by show _ = _; rw [wordT, if_neg h4]
        clear h4
        have HTB : Hid (((tb ++ ⟨x.text.toArray⟩) ++ ⟨#[32]⟩ : ByteArray).data.toList = joinT (toks.take (k + 1))) := by
          show _ = _
          rw [HJ.out, HW.out, bytes_app, bytes_app, htb.out]
        go_wp2_with fail
        cases k with
        | zero =>
          go_quiet (fail)
          go_wp2_with fail
          go_roundw
          case rel => exact ⟨1, _, by omega, rfl, HTB, rfl, below_drewN HBEL.out _⟩
          case measure => (simp [intOf] <;> omega)
        | succ j =>
          obtain ⟨-, -, -, p3, p4⟩ := HC.out j (by omega)
          have hr := HR.out j (by omega)
          rw [HX.out] at hr
          generalize toks[j] = y at *
          have t0 : decide ((0 : Int) < (j : Int) + 1) = true := by rw [decide_eq_true_eq]; omega
          have hwr : IntKind.i64.wrap (j : Int) = (j : Int) := by rw [IntKind.wrap_i64]; omega
          have i0 : (0 : Int) ≤ (j : Int) := by omega
          have i2 : (j : Int) + 1 < (toks.length : Int) := by omega
          have i3 : (0 : Int) ≤ (j : Int) + 1 := by omega
          have i4 : ((j : Int) + 1).toNat = j + 1 := by omega
          have i5 : j < toks.length := by omega
          have hwr1 : IntKind.i64.wrap ((j : Int) + 1) = (j : Int) + 1 := by rw [IntKind.wrap_i64]; omega
          have i1 : (j : Int) < (toks.length : Int) := by omega
          rcases hr with hr | ⟨hr1, hr2⟩
          · have d1 : decide ((x.line : Int) < (y.line : Int)) = false := by rw [decide_eq_false_iff_not]; omega
            have d1n : decide (x.line < y.line) = false := by rw [decide_eq_false_iff_not]; omega
            have d2 : ((x.line : Int) == (y.line : Int)) = false := by rw [beq_eq_false_iff_ne]; omega
            have d2n : (x.line == y.line) = false := by rw [beq_eq_false_iff_ne]; omega
            clear hr
            go_quiet (fail)
            go_wp2_with fail
            go_roundw
            case rel => exact ⟨j + 1 + 1, _, by omega, rfl, HTB, by go_num, below_drewN HBEL.out _⟩
            case measure => (simp [intOf] <;> omega)
          · have d1 : decide ((x.line : Int) < (y.line : Int)) = false := by rw [decide_eq_false_iff_not]; omega
            have d1n : decide (x.line < y.line) = false := by rw [decide_eq_false_iff_not]; omega
            have d2 : ((x.line : Int) == (y.line : Int)) = true := by rw [beq_iff_eq]; omega
            have d2n : (x.line == y.line) = true := by rw [beq_iff_eq]; omega
            have d3 : decide ((x.col : Int) ≤ (y.col : Int)) = false := by rw [decide_eq_false_iff_not]; omega
            have d3n : decide (x.col ≤ y.col) = false := by rw [decide_eq_false_iff_not]; omega
            clear hr1 hr2
            go_quiet (fail)
            go_wp2_with fail
            go_roundw
            case rel => exact ⟨j + 1 + 1, _, by omega, rfl, HTB, by go_num, below_drewN HBEL.out _⟩
            case measure => (simp [intOf] <;> omega)
    · have hke : k = toks.length := by omega
      have HTE : Hid (tb.data.toList = joinT toks) := by show _ = _; rw [htb.out, hke, List.take_length]
      have HSB : Hid (scanB tb = .ok m) := by show _ = _; rw [scanB, if_neg (by omega), HTE.out, hagain.out]
      clear hke
      have hgr : 0 < wr.heap.size := Nat.lt_of_lt_of_le hg (Below.step B3.out HBEL.out).size
      go_wp2_with fail
      refine (scan_any tb _ (by unfold maxLen; omega) hgr (HOK.out.below hg (Below.step B3.out HBEL.out))).mono ?_
      rw [HSB.out]
      rintro e w5 ⟨u, rfl, ho, b5⟩
      have HU := Lib.hid ho.tok
      obtain ⟨ua, uc, rfl⟩ := ho.form
      have HT5 := Lib.hid (HTR.out.on b5)
      have B5 := Lib.hid (Below.step (Below.step B3.out HBEL.out) b5)
      clear ho b5
      go_wp2_with fail
      have b6 := stands_alloc w5 (.cells #[.int .i64 0, .int .i64 0] 48)
      generalize w5.alloc (.cells #[.int .i64 0, .int .i64 0] 48) = w6 at *
      have B6 := Lib.hid (Below.step B5.out b6)
      refine (words_any toks m _ _ _ (HT5.out.on b6) (HU.out.on b6) hstrip.out (by omega)).mono ?_
      rintro e w7 ⟨rfl, b7⟩
      go_wp2_with fail
      go_ret
      exact ⟨rfl, Below.step B6.out b7⟩

set_option maxRecDepth 100000 in
set_option maxHeartbeats 4000000 in
theorem core_bad (s : ByteArray) (W : World) (hok : SignsOk W) (hs : s.size ≤ 3000) (a b : Nat) (hscan : Hid (scanB s = .bad a b)) :
    Calls Tryd.prog 8 #[.string s] W fun e W' => e = .returned (.bool true) ∧ Below W.heap.size W W' := by
  have HOK := Lib.hid hok
  have hg := signs_lt hok
  clear hok
  go_enter Tryd.func8, Tryd.ntmps8
  go_wp2_with fail
  refine (awake3_any _ hg HOK.out).mono ?_
  rintro e w1 ⟨rfl, b1⟩
  have hg1 := Nat.lt_of_lt_of_le hg b1.size
  have HOK1 := Lib.hid (HOK.out.below hg b1)
  have B1 := Lib.hid b1
  clear b1
  go_wp2_with fail
  refine (scan_any s _ (by unfold maxLen; omega) hg1 HOK1.out).mono ?_
  rw [hscan.out]
  rintro e w2 ⟨rfl, b2⟩
  have B2 := Lib.hid (Below.step (Below.step B1.out b2) (stands_alloc w2 (.cells #[.int .i64 a, .int .i64 b] 48)))
  clear b2
  go_wp2_with fail
  go_ret
  exact ⟨rfl, B2.out⟩

set_option maxRecDepth 100000 in
set_option maxHeartbeats 4000000 in
theorem walk (s : ByteArray) (W : World) (hok : SignsOk W) (hs : s.size ≤ maxLen) (_ks : s.size ≤ 140737488351232) :
    Calls Tryd.prog 8 #[.string s] W fun e W' => e = .returned (.bool true) ∧ Below W.heap.size W W' := by
  by_cases h : 3000 < s.size
  · have HOK := Lib.hid hok
    have hg := signs_lt hok
    unfold maxLen at hs
    clear hok
    go_enter Tryd.func8, Tryd.ntmps8
    go_wp2_with fail
    refine (awake3_any _ hg HOK.out).mono ?_
    rintro e w1 ⟨rfl, b1⟩
    go_wp2_with fail
    go_ret
    exact ⟨rfl, b1⟩
  · have hle : s.size ≤ 3000 := by omega
    have he : scanB s = scanS 0 s.data.toList 1 1 := by rw [scanB, if_neg (by omega)]
    cases hsc : scanS 0 s.data.toList 1 1 with
    | bad a b => exact core_bad s W hok hle a b (he.trans hsc)
    | ok toks =>
      obtain ⟨h1, h2, m, h3, h4⟩ := scan_again hsc
      rw [list_len] at h1
      have hc : toks.length ≤ (joinT toks).length := by
        have : ∀ l : List Tok, l.length ≤ (joinT l).length := fun l => by
          induction l with
          | nil => simp
          | cons x l ih =>
            have e : joinT (x :: l) = wordT x ++ [32] ++ joinT l := by simp [joinT]
            rw [e]; simp only [List.length_append, List.length_cons, List.length_nil]; omega
        exact this toks
      exact core s W hok hle toks m (he.trans hsc) (show _ ≤ _ by omega) h2 h3 h4 (show _ ≤ _ by omega)

end Go.Proofs.YtgkgnfafjbjbnaaDoor.lexerAgain
