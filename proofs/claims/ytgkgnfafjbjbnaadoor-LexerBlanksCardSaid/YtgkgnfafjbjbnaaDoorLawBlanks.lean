/-
  LexerBlanks: for every row of raw tokens and of texts the law returns true: comments and blanks between tokens change their places alone.
-/
import Derived.Test.YtgkgnfafjbjbnaaDoorBlanksData
import Derived.Deep.RegionHeld3
import Derived.Deep.DeepCutAuto
namespace Go.Proofs.YtgkgnfafjbjbnaaDoor.lexerBlanks
open Go.ChangeShapes Go.WideShapes Go.ChangeAt Go.RowKit

set_option maxRecDepth 100000 in
set_option maxHeartbeats 16000000 in
theorem walk (l : List Raw) (gs : List ByteArray) (W : World) (v u : Value) (hok : SignsOk W) (hl : RepR W l v) (hgs : RepT W gs u) :
    Calls Tryd.prog 9 #[v, u] W fun e W' => e = .returned (.bool true) ∧ Below W.heap.size W W' := by
  have HOK := Lib.hid hok
  have hg := signs_lt hok
  have HL := Lib.hid hl; have HGS := Lib.hid hgs
  obtain ⟨ra, rb, ro, rc, rfl, hrc, hrm, -⟩ := hl
  obtain ⟨ta, tb0, tq, tc, rfl, htc, htm, -⟩ := hgs
  unfold maxLen at hrm htm
  clear hok
  go_enter Tryd.func9, Tryd.ntmps9
  go_wp2_with fail
  refine (awake3_any _ hg HOK.out).mono ?_
  rintro e w1 ⟨rfl, b1⟩
  have HL1 := Lib.hid (HL.out.on b1); have HG1 := Lib.hid (HGS.out.on b1)
  have B1 := Lib.hid b1
  clear b1
  go_wp2_with fail
  obtain ⟨n, hn⟩ : ∃ n, n = min l.length 30 := ⟨_, rfl⟩
  go_loopw [6, 7, 8, 9, 10, 11, 12] (fun s t i _ _ _ _ wr => ∃ (k : Nat) (sb tb : ByteArray), k ≤ n ∧ s = .string sb ∧ t = .string tb ∧ Hid (sb.data.toList = joinR ((pairsTo l gs k).map (·.2))) ∧ Hid (tb.data.toList = joinG (pairsTo l gs k)) ∧ i = .int .i64 k ∧ Below w1.heap.size w1 wr) (fun _ _ i _ _ _ _ _ => n - (intOf i).toNat)
  case atStart => exact ⟨0, ⟨#[]⟩, ⟨#[]⟩, Nat.zero_le _, rfl, rfl, rfl, rfl, rfl, Below.refl _ _⟩
  case round =>
    obtain ⟨k, sb, tb, hk, rfl, rfl, hsb, htb, rfl, hbel⟩ := hrel
    generalize wr = w2 at *
    have HBEL := Lib.hid hbel
    have hssz : sb.size ≤ 1050 := by
      have h1 := joinR_len l gs k
      have h3 := list_len sb
      rw [hsb.out] at h3
      omega
    have htsz : tb.size ≤ 1830 := by
      have h1 := joinG_len l gs k
      have h3 := list_len tb
      rw [htb.out] at h3
      omega
    have HL2 := Lib.hid (HL1.out.on hbel); have HG2 := Lib.hid (HG1.out.on hbel)
    clear hbel
    by_cases hlt : k < n
    · have hkl : k < l.length := by omega
      have hk30 : k < 30 := by omega
      obtain ⟨ra', rb', ro', rc', he, -, -, hra, hcell⟩ := HL2.out
      cases he
      obtain ⟨rfl, hrb⟩ := hra (by omega)
      obtain ⟨q0, q1, q2, hraw⟩ := hcell k hkl
      have HPS := Lib.hid (pairs_succ gs hkl)
      obtain ⟨-, -, hwl⟩ := rawR_facts l[k].kind l[k].s l[k].n
      generalize l[k] = x at *
      clear hcell hra hn
      have HRAW := Lib.hid hraw
      obtain ⟨hx1, hx2, hx3⟩ := hraw
      go_wp2_with fail
      go_cut [9] (fun s9 wx => s9 = .string ⟨(wordOf (rawR x.kind x.s x.n)).toArray⟩ ∧ Below w2.heap.size w2 wx)
      case first =>
        have hsk : w2.heap.size ≤ w2.drew.heap.size := Nat.le_refl _
        go_region_held3 (fun w' => w'.cell? ⟨rb', ro' + k * 3, none⟩ = some (.int .i64 x.kind) ∧ w'.cell? ⟨rb', ro' + k * 3 + 1, none⟩ = some (.string x.s) ∧ w'.cell? ⟨rb', ro' + k * 3 + 2, none⟩ = some (.int .i64 x.n))
          (first | exact ⟨q0, q1, q2⟩ | exact ⟨(b3.cell (p := ⟨rb', ro' + k * 3, none⟩) hrb).trans q0, (b3.cell (p := ⟨rb', ro' + k * 3 + 1, none⟩) hrb).trans q1, (b3.cell (p := ⟨rb', ro' + k * 3 + 2, none⟩) hrb).trans q2⟩)
          (first | (go_at_call 36; refine (word_any x.kind x.s x.n _ HRAW.out.1 (by have := HRAW.out.2.1; omega) HRAW.out.2.2).mono ?_; rintro e w3 ⟨rfl, b3⟩))
        all_goals
          go_wp2_with fail
          go_meet
          exact ⟨rfl, Below.trans (Below.drew (Below.refl _ _)) b3⟩
      case rest =>
        obtain ⟨rfl, hb3⟩ := hcut
        generalize wc = w3 at *
        have HB3 := Lib.hid hb3
        have hwz : (⟨(wordOf (rawR x.kind x.s x.n)).toArray⟩ : ByteArray).size ≤ 34 := by rw [size_mk]; exact hwl
        have HWL : Hid ((⟨(wordOf (rawR x.kind x.s x.n)).toArray⟩ : ByteArray).data.toList = wordOf (readOf x)) := by show _ = _; simp [readOf]
        generalize (⟨(wordOf (rawR x.kind x.s x.n)).toArray⟩ : ByteArray) = wd at *
        have HS : Hid (((sb ++ wd) ++ ⟨#[32]⟩ : ByteArray).data.toList = joinR ((pairsTo l gs (k + 1)).map (·.2))) := by
          show _ = _
          rw [HPS.out, List.map_append, List.map_cons, List.map_nil, joinR_snoc, bytes_app, bytes_app, hsb.out, HWL.out]
        have HG3 := Lib.hid (HG2.out.on hb3)
        clear hb3 q0 q1 q2 hx1 hx2 hx3 HRAW hwl
        by_cases hkg : k < gs.length
        · obtain ⟨ta', tb', tq', tc', he, -, -, hta, htc'⟩ := HG3.out
          cases he
          obtain ⟨rfl, htb'⟩ := hta (by omega)
          obtain ⟨q0, hq⟩ := htc' k hkg
          have HGA : Hid (gapAt gs k = gapB (cleanC gs[k])) := by show _ = _; rw [gapAt, List.getElem?_eq_getElem hkg]
          generalize gs[k] = s at *
          clear htc' hta
          unfold maxLen at hq
          have hconv := conv_to
          go_wp2_with fail
          go_region
          have hraw : (s.extract 0 (min (s.size : Int) 20).toNat).data.toList = rawC s := by
            rw [rawC]
            have e : (min (s.size : Int) 20).toNat = min s.size 20 := by omega
            rw [e, ByteArray.data_extract]
            simp
            omega
          have hby : BytesAt (Lib.bytesWorld w3.drew 5 (s.extract 0 (min (s.size : Int) 20).toNat)) w3.heap.size (s.extract 0 (min (s.size : Int) 20).toNat).data.toList := bytes_new w3.drew _
          have hbe : Below w3.heap.size w3 (Lib.bytesWorld w3.drew 5 (s.extract 0 (min (s.size : Int) 20).toNat)) := Below.trans (Below.drew (Below.refl _ _)) (bytes_below w3.drew _)
          rw [hraw] at hby
          have hlen : min (min (s.size : Int) 20).toNat s.size = (rawC s).length := by rw [rawC_length]; omega
          generalize Lib.bytesWorld w3.drew 5 (s.extract 0 (min (s.size : Int) 20).toNat) = w4 at *
          generalize grownCap w3.drew (min (min (s.size : Int) 20).toNat s.size) 0 5 = cap at *
          generalize min (min (s.size : Int) 20).toNat s.size = tl at *
          have hl20 : tl ≤ 20 := by rw [hlen, rawC_length]; omega
          have HLEN := Lib.hid hlen
          rw [← toC_zero] at hby
          have HBY := Lib.hid hby; have HBE := Lib.hid hbe
          clear hlen hraw hconv hby hbe q0
          go_wp2_with fail
          go_loopw [12] (fun i wx => ∃ j : Nat, j ≤ tl ∧ i = .int .i64 j ∧ BytesAt wx w3.heap.size (toC s j) ∧ Below w3.heap.size w3 wx) (fun i _ => tl - (intOf i).toNat)
          case atStart => exact ⟨0, Nat.zero_le _, rfl, HBY.out, HBE.out⟩
          case round =>
            obtain ⟨j, hj, rfl, hb, hbx⟩ := hrel
            generalize wr = wx at *
            have HBX := Lib.hid hbx
            clear hbx
            by_cases hjl : j < tl
            · have hkr : j < (rawC s).length := by rw [← HLEN.out]; exact hjl
              have hkn : j < (toC s j).length := by rw [toC_length, ← rawC_length]; exact hkr
              have hc := hb.cell j hkn
              have hf := hb.free j hkn
              have hge := toC_get s j hkn hkr
              have HSELF := Lib.hid (@List.set_getElem_self _ (toC s j) j hkn)
              rw [hge] at hc HSELF
              have HSU := Lib.hid (toC_succ s j hkr)
              have HB := Lib.hid hb; clear hb hge
              generalize (rawC s)[j] = c at *
              by_cases h10c : c.toNat = 10
              · have HN : Hid (noFeed c = 11) := by show _ = _; rw [noFeed, if_pos h10c]
                have t1 : ((c.toNat : Int) == 10) = true := beq_iff_eq.2 (by omega)
                have HB2 : Hid (BytesAt (wx.setCell ⟨w3.heap.size, j, none⟩ (.int .u8 11)) w3.heap.size (toC s (j + 1))) := by
                  show BytesAt _ _ _
                  rw [HSU.out, HN.out]
                  exact HB.out.set j 11
                clear h10c
                go_wp2_with fail
                go_roundw
                case rel => exact ⟨j + 1, by omega, by go_num, HB2.out, HBX.out.setCell (p := ⟨w3.heap.size, j, none⟩) (Nat.le_refl _) _⟩
                case measure => first | (simp [intOf]; omega) | simp [intOf]
              · have HN : Hid (noFeed c = c) := by show _ = _; rw [noFeed, if_neg h10c]
                have t1 : ((c.toNat : Int) == 10) = false := beq_eq_false_iff_ne.2 (by omega)
                have HB2 : Hid (BytesAt wx w3.heap.size (toC s (j + 1))) := by
                  show BytesAt _ _ _
                  rw [HSU.out, HN.out, HSELF.out]
                  exact HB.out
                clear h10c
                go_wp2_with fail
                go_roundw
                case rel => exact ⟨j + 1, by omega, by go_num, HB2.out, HBX.out⟩
                case measure => first | (simp [intOf]; omega) | simp [intOf]
            · have hje : j = tl := by omega
              have htl : tl = min s.size 20 := by rw [HLEN.out, rawC_length]
              rw [hje, htl, toC_end] at hb
              have hback := conv_back wx w3.heap.size cap (cleanC s) hb
              have hcl : (cleanC s).length = tl := by rw [cleanC_length, htl]
              rw [hcl] at hback
              have hcs : (⟨(cleanC s).toArray⟩ : ByteArray).size ≤ 20 := by rw [size_mk, hcl]; omega
              have HUL : Hid ((⟨(cleanC s).toArray⟩ : ByteArray).data.toList = cleanC s) := by show _ = _; simp
              generalize (⟨(cleanC s).toArray⟩ : ByteArray) = uu at *
              have HT : Hid ((((tb ++ ((⟨#[32, 9, 37]⟩ ++ uu) ++ ⟨#[10, 32, 10]⟩)) ++ wd) ++ ⟨#[32]⟩ : ByteArray).data.toList = joinG (pairsTo l gs (k + 1))) := by
                show _ = _
                rw [HPS.out, joinG_snoc, bytes_app, bytes_app, bytes_app, bytes_app, bytes_app, htb.out, HWL.out, HUL.out, HGA.out]
                simp [gapB]
              clear hb hcl htl hje HBY HBE
              go_wp2_with fail
              go_roundw
              case rel => exact ⟨k + 1, _, _, by omega, rfl, rfl, HS, HT, by go_num, (HBEL.out.trans (HB3.out.mono HBEL.out.size)).trans (HBX.out.mono (Nat.le_trans HBEL.out.size HB3.out.size))⟩
              case measure => first | (simp [intOf]; omega) | simp [intOf]
        · have HGA : Hid (gapAt gs k = [32]) := by show _ = _; rw [gapAt, List.getElem?_eq_none (by omega)]
          have hkg' : gs.length ≤ k := by omega
          have HT : Hid ((((tb ++ ⟨#[32]⟩) ++ wd) ++ ⟨#[32]⟩ : ByteArray).data.toList = joinG (pairsTo l gs (k + 1))) := by
            show _ = _
            rw [HPS.out, joinG_snoc, bytes_app, bytes_app, bytes_app, htb.out, HWL.out, HGA.out]
            simp
          clear hkg
          go_wp2_with fail
          go_roundw
          case rel => exact ⟨k + 1, _, _, by omega, rfl, rfl, HS, HT, by go_num, HBEL.out.trans (HB3.out.mono HBEL.out.size)⟩
          case measure => first | (simp [intOf]; omega) | simp [intOf]
    · obtain ⟨a, b, c, h1, h2, h3, h4, h5, h6⟩ := scan_three l gs k
      have HA : Hid (scanB sb = .ok a) := by show _ = _; rw [scanB, if_neg (by omega), hsb.out, h1]
      have HB : Hid (scanB tb = .ok b) := by show _ = _; rw [scanB, if_neg (by omega), htb.out, h2]
      have HC : Hid (scanB (tb ++ ⟨#[37, 32, 101, 110, 100]⟩) = .ok c) := by
        show _ = _
        have hz : (tb ++ ⟨#[37, 32, 101, 110, 100]⟩ : ByteArray).size = tb.size + 5 := by rw [ByteArray.size_append]; rfl
        rw [scanB, if_neg (by omega), bytes_app, htb.out]
        exact h3
      have HZ : Hid ((tb ++ ⟨#[37, 32, 101, 110, 100]⟩ : ByteArray).size ≤ maxLen) := by show _ ≤ _; rw [ByteArray.size_append]; unfold maxLen; show tb.size + 5 ≤ _; omega
      have H4 := Lib.hid h4; have H5 := Lib.hid h5
      have B2 := Lib.hid (Below.step B1.out HBEL.out)
      have hcase : l.length ≤ k ∨ (k < l.length ∧ k = 30) := by omega
      have hk30 : k ≤ 30 := by omega
      clear h1 h2 h3 h4 h5 hn hlt hk
      rcases hcase with hca | ⟨hca, hcb⟩
      case' inr => subst hcb
      all_goals
        go_wp2_with fail
        refine (scan_any sb _ (by unfold maxLen; omega) (Nat.lt_of_lt_of_le hg B2.out.size) (HOK.out.below hg B2.out)).mono ?_
        rw [HA.out]
        rintro e w5 ⟨va, rfl, ho, b5⟩
        have hta5 := ho.tok.on (stands_alloc w5 (.cells #[.int .i64 0, .int .i64 0] 48))
        obtain ⟨aa, ac, rfl⟩ := ho.form
        have B5 := Lib.hid (Below.step (Below.step B2.out b5) (stands_alloc w5 (.cells #[.int .i64 0, .int .i64 0] 48)))
        clear ho b5
        go_wp2_with fail
        generalize w5.alloc (.cells #[.int .i64 0, .int .i64 0] 48) = w6 at *
        have TA6 := Lib.hid hta5
        clear hta5
        refine (scan_any tb _ (by unfold maxLen; omega) (Nat.lt_of_lt_of_le hg B5.out.size) (HOK.out.below hg B5.out)).mono ?_
        rw [HB.out]
        rintro e w7 ⟨vb, rfl, ho, b7⟩
        have htb7 := ho.tok.on (stands_alloc w7 (.cells #[.int .i64 0, .int .i64 0] 48))
        obtain ⟨ba, bc, rfl⟩ := ho.form
        have TA8 := Lib.hid (TA6.out.on (Below.step b7 (stands_alloc w7 (.cells #[.int .i64 0, .int .i64 0] 48))))
        have B7 := Lib.hid (Below.step (Below.step B5.out b7) (stands_alloc w7 (.cells #[.int .i64 0, .int .i64 0] 48)))
        clear ho b7
        go_wp2_with fail
        generalize w7.alloc (.cells #[.int .i64 0, .int .i64 0] 48) = w8 at *
        have TB8 := Lib.hid htb7
        clear htb7
        refine (scan_any _ _ HZ.out (Nat.lt_of_lt_of_le hg B7.out.size) (HOK.out.below hg B7.out)).mono ?_
        rw [HC.out]
        rintro e w9 ⟨vc, rfl, ho, b9⟩
        have htc9 := ho.tok.on (stands_alloc w9 (.cells #[.int .i64 0, .int .i64 0] 48))
        obtain ⟨ca, cc, rfl⟩ := ho.form
        have hst := Below.step b9 (stands_alloc w9 (.cells #[.int .i64 0, .int .i64 0] 48))
        have TA10 := Lib.hid (TA8.out.on hst); have TB10 := Lib.hid (TB8.out.on hst)
        have B9 := Lib.hid (Below.step B7.out hst)
        clear ho b9 hst
        go_wp2_with fail
        generalize w9.alloc (.cells #[.int .i64 0, .int .i64 0] 48) = w10 at *
        have TC10 := Lib.hid htc9
        clear htc9
        refine (words_any a b _ _ _ TA10.out TB10.out H4.out (by omega)).mono ?_
        rintro e w11 ⟨rfl, b11⟩
        have B11 := Lib.hid (Below.step B9.out b11)
        have TA11 := Lib.hid (TA10.out.on b11); have TC11 := Lib.hid (TC10.out.on b11)
        clear b11
        go_wp2_with fail
        refine (words_any a c _ _ _ TA11.out TC11.out H5.out (by omega)).mono ?_
        rintro e w12 ⟨rfl, b12⟩
        go_wp2_with fail
        go_ret
        exact ⟨rfl, Below.step B11.out b12⟩

end Go.Proofs.YtgkgnfafjbjbnaaDoor.lexerBlanks
