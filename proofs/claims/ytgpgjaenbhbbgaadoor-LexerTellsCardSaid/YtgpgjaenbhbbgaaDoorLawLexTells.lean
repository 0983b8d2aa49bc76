/-
  LexerTells: for every text the law returns true: it is scanned as the document says.
-/
import Derived.Test.YtgpgjaenbhbbgaaDoorRefLexScan
import Derived.Test.YtgpgjaenbhbbgaaDoorLexLaw
namespace Go.Proofs.YtgpgjaenbhbbgaaDoor.lexerTells
open Go.ChangeShapes Go.WideShapes Go.ChangeAt Go.RowKit

set_option maxRecDepth 100000 in
set_option maxHeartbeats 8000000 in
/-- The law's own 'Same' of one list of tokens that lies twice. -/
theorem same_toks (l : List Tok) (w : World) (v u : Value) (hl : TokAt w v l) (hm : TokAt w u l) (hb : l.length ≤ 1000000) :
    Calls Tryd.prog 27 #[v, u] w fun e w' => e = .returned (.bool true) ∧ Below w.heap.size w w' := by
  obtain ⟨a, cap, rfl, hc1, hl'⟩ := hl
  obtain ⟨a', cap', rfl, hc2, hm'⟩ := hm
  have HL := Lib.hid hl'; have HM := Lib.hid hm'
  clear hl' hm'
  go_enter Tryd.func27, Tryd.ntmps27
  go_wp2_with fail
  go_loopw [5] (fun i wr => ∃ k : Nat, k ≤ l.length ∧ i = .int .i64 k ∧ Below w.heap.size w wr) (fun i _ => l.length - (intOf i).toNat)
  case atStart => exact ⟨0, Nat.zero_le _, rfl, Below.refl _ _⟩
  case round =>
    obtain ⟨k, hk, rfl, hbel⟩ := hrel
    by_cases hlt : k < l.length
    · obtain ⟨b, hb1, rfl, hcl⟩ := HL.out (by omega)
      obtain ⟨b', hb2, rfl, hcm⟩ := HM.out (by omega)
      obtain ⟨g0, g1, g2, g3, g4⟩ := hcl k hlt
      obtain ⟨f0, f1, f2, f3, f4⟩ := hcm k hlt
      have q0 := (hbel.cell (p := ⟨b, k * 5, none⟩) hb1).trans g0
      have q1 := (hbel.cell (p := ⟨b, k * 5 + 1, none⟩) hb1).trans g1
      have q2 := (hbel.cell (p := ⟨b, k * 5 + 2, none⟩) hb1).trans g2
      have q3 := (hbel.cell (p := ⟨b, k * 5 + 3, none⟩) hb1).trans g3
      have q4 := (hbel.cell (p := ⟨b, k * 5 + 4, none⟩) hb1).trans g4
      have p0 := (hbel.cell (p := ⟨b', k * 5, none⟩) hb2).trans f0
      have p1 := (hbel.cell (p := ⟨b', k * 5 + 1, none⟩) hb2).trans f1
      have p2 := (hbel.cell (p := ⟨b', k * 5 + 2, none⟩) hb2).trans f2
      have p3 := (hbel.cell (p := ⟨b', k * 5 + 3, none⟩) hb2).trans f3
      have p4 := (hbel.cell (p := ⟨b', k * 5 + 4, none⟩) hb2).trans f4
      generalize l[k] = x at *
      have HBEL := Lib.hid hbel
      clear hcl hcm g0 g1 g2 g3 g4 f0 f1 f2 f3 f4 hbel
      go_wp2_with fail
      go_quiet (fail)
      go_wp2_with fail
      go_roundw
      case rel => exact ⟨k + 1, by omega, by go_num, below_drewN HBEL.out _⟩
      case measure => simp [intOf]; omega
    · have HBEL := Lib.hid hbel
      clear hbel
      go_wp2_with fail
      go_ret
      exact ⟨rfl, HBEL.out⟩

theorem scan_few : ∀ (l : List UInt8) (k line col : Nat) (toks : List Tok), scanS k l line col = .ok toks → toks.length ≤ l.length + 1
  | [], k, line, col, toks, h => by rw [scanS_nil] at h; cases h; simp
  | c :: r, k + 1, line, col, toks, h => by
    rw [scanS] at h
    have := scan_few r k line (col + 1) toks h
    rw [List.length_cons]; omega
  | c :: r, 0, line, col, toks, h => by
    rw [scanS] at h
    rw [List.length_cons]
    split at h
    · have := scan_few r _ _ _ toks h; omega
    split at h
    · have := scan_few r _ _ _ toks h; omega
    split at h
    · have := scan_few r _ _ _ toks h; omega
    split at h
    · cases h
    · rename_i t _
      cases hs : scanS (t.len - 1) r line (col + 1) with
      | bad a b => rw [hs] at h; cases h
      | ok m =>
        rw [hs] at h
        have := scan_few r _ _ _ m hs
        cases h
        simp only [List.length_append, List.length_cons, List.length_nil]
        omega

set_option maxRecDepth 100000 in
set_option maxHeartbeats 8000000 in
theorem walk (s : ByteArray) (W : World) (hok : SignsOk W) (hs : s.size ≤ maxLen) (_hz : s.size ≤ 140737488351232) :
    Calls Tryd.prog 5 #[.string s] W fun e W' => e = .returned (.bool true) ∧ Below W.heap.size W W' := by
  have HOK := Lib.hid hok
  have hg := signs_lt hok
  have HSZ := Lib.hid hs
  clear hok
  unfold maxLen at hs
  by_cases hmid : 3000 < s.size ∧ s.size ≤ 20000
  · have t1 : decide (3000 < (s.size : Int)) = true := by rw [decide_eq_true_eq]; omega
    have t2 : decide ((s.size : Int) ≤ 20000) = true := by rw [decide_eq_true_eq]; omega
    go_enter Tryd.func5, Tryd.ntmps5
    go_wp2_with fail
    refine (awake3_any _ hg HOK.out).mono ?_
    rintro e w1 ⟨rfl, b1⟩
    have B1 := Lib.hid b1
    clear b1
    go_wp2_with fail
    go_ret
    exact ⟨rfl, B1.out⟩
  · have hcnt : ∀ toks, scanB s = .ok toks → toks.length ≤ 1000000 := fun toks h => by
      unfold scanB at h
      split at h
      · cases h
      · have := scan_few _ _ _ _ _ h
        rw [list_len] at this
        omega
    have HCNT := Lib.hid hcnt
    clear hcnt
    obtain ⟨u, hu⟩ : ∃ u, u = decide (3000 < (s.size : Int)) := ⟨_, rfl⟩
    have hu2 : u = true → decide ((s.size : Int) ≤ 20000) = false := fun h => by
      rw [h] at hu
      have := of_decide_eq_true hu.symm
      rw [decide_eq_false_iff_not]; omega
    have hu' := hu.symm
    clear hu hmid
    generalize hr : scanB s = r at *
    have HR := Lib.hid hr
    clear hr
    cases u
    case' true => have hu3 := hu2 rfl
    all_goals
      clear hu2
      go_enter Tryd.func5, Tryd.ntmps5
      go_wp2_with fail
      refine (awake3_any _ hg HOK.out).mono ?_
      rintro e w1 ⟨rfl, b1⟩
      have hg1 := Nat.lt_of_lt_of_le hg b1.size
      have HOK1 := Lib.hid (HOK.out.below hg b1)
      have B1 := Lib.hid b1
      clear b1
      go_wp2_with fail
      refine (scan_any s _ HSZ.out hg1 HOK1.out).mono ?_
      rw [HR.out]
      rintro e w2 hp2
      cases r with
      | bad line col =>
        obtain ⟨rfl, b2⟩ := hp2
        have B2 := Lib.hid (Below.step B1.out b2)
        clear b2
        go_wp2_with fail
        have b3 := stands_alloc w2 (.cells #[.int .i64 line, .int .i64 col] 46)
        have x3 := boxed2_new w2 (.int .i64 line) (.int .i64 col)
        generalize w2.alloc (.cells #[.int .i64 line, .int .i64 col] 46) = w3 at *
        have B3 := Lib.hid (Below.step B2.out b3); have X3 := Lib.hid x3
        clear b3 x3 B2
        refine (rscan_any s _ HSZ.out).mono ?_
        rw [HR.out]
        rintro e w4 ⟨rfl, b4⟩
        have X4 := X3.out.on (Below.step b4 (stands_alloc w4 (.cells #[.int .i64 line, .int .i64 col] 46)))
        have B5 := Lib.hid (Below.step (Below.step B3.out b4) (stands_alloc w4 (.cells #[.int .i64 line, .int .i64 col] 46)))
        have HB5 : Hid (TokAt (w4.alloc (.cells #[.int .i64 line, .int .i64 col] 46)) (.slice none 0 0) []) := ⟨none, 0, rfl, Nat.le_refl _, fun h => absurd h (by simp)⟩
        have x5 := boxed2_new w4 (.int .i64 line) (.int .i64 col)
        clear b4
        go_wp2_with fail
        generalize w4.alloc (.cells #[.int .i64 line, .int .i64 col] 46) = w5 at *
        have X5 := Lib.hid x5; have X4' := Lib.hid X4
        clear x5 X4
        refine (same_toks [] _ _ _ HB5.out HB5.out (by simp)).mono ?_
        rintro e w6 ⟨rfl, b6⟩
        obtain ⟨p0, p1⟩ := (X4'.out.on b6).cells
        obtain ⟨q0, q1⟩ := (X5.out.on b6).cells
        have B6 := Lib.hid (Below.step B5.out b6)
        clear b6
        go_wp2_with fail
        go_ret
        exact ⟨rfl, B6.out⟩
      | ok toks =>
        obtain ⟨v, rfl, ho, b2⟩ := hp2
        have HT2 := Lib.hid ho.tok
        obtain ⟨va, vc, rfl⟩ := ho.form
        have B2 := Lib.hid (Below.step B1.out b2)
        have hln := HCNT.out toks rfl
        clear ho b2
        go_wp2_with fail
        have b3 := stands_alloc w2 (.cells #[.int .i64 0, .int .i64 0] 46)
        have x3 := boxed2_new w2 (.int .i64 0) (.int .i64 0)
        generalize w2.alloc (.cells #[.int .i64 0, .int .i64 0] 46) = w3 at *
        have B3 := Lib.hid (Below.step B2.out b3); have X3 := Lib.hid x3
        have HT3 := Lib.hid (HT2.out.on b3)
        clear b3 x3 B2 HT2
        refine (rscan_any s _ HSZ.out).mono ?_
        rw [HR.out]
        rintro e w4 ⟨v', rfl, ho, b4⟩
        have ho' := ho.tok
        obtain ⟨va', vc', rfl⟩ := ho.form
        have X4 := X3.out.on (Below.step b4 (stands_alloc w4 (.cells #[.int .i64 0, .int .i64 0] 46)))
        have B5 := Lib.hid (Below.step (Below.step B3.out b4) (stands_alloc w4 (.cells #[.int .i64 0, .int .i64 0] 46)))
        have HT5 := Lib.hid (HT3.out.on (Below.step b4 (stands_alloc w4 (.cells #[.int .i64 0, .int .i64 0] 46))))
        have HT5' := Lib.hid (ho'.on (stands_alloc w4 (.cells #[.int .i64 0, .int .i64 0] 46)))
        have x5 := boxed2_new w4 (.int .i64 0) (.int .i64 0)
        clear b4 ho ho'
        go_wp2_with fail
        generalize w4.alloc (.cells #[.int .i64 0, .int .i64 0] 46) = w5 at *
        have X5 := Lib.hid x5; have X4' := Lib.hid X4
        clear x5 X4
        refine (same_toks toks _ _ _ HT5.out HT5'.out hln).mono ?_
        rintro e w6 ⟨rfl, b6⟩
        obtain ⟨p0, p1⟩ := (X4'.out.on b6).cells
        obtain ⟨q0, q1⟩ := (X5.out.on b6).cells
        have B6 := Lib.hid (Below.step B5.out b6)
        clear b6
        go_wp2_with fail
        go_ret
        exact ⟨rfl, B6.out⟩

end Go.Proofs.YtgpgjaenbhbbgaaDoor.lexerTells
