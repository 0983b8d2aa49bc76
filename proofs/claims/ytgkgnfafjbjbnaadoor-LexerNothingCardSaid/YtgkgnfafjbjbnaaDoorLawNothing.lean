/-
  LexerNothing: for every row of texts the law returns true: of blanks and comments alone there is the end alone, behind them all.
-/
import Derived.Test.YtgkgnfafjbjbnaaDoorLexOpen
import Derived.Test.YtgkgnfafjbjbnaaDoorLawAgainKit
namespace Go.Proofs.YtgkgnfafjbjbnaaDoor.lexerNothing
open Go.ChangeShapes Go.WideShapes Go.ChangeAt Go.RowKit

def noFeed (c : UInt8) : UInt8 := if c.toNat = 10 then 9 else c
def rawC (s : ByteArray) : List UInt8 := s.data.toList.take 50
def cleanC (s : ByteArray) : List UInt8 := (rawC s).map noFeed
def toC (s : ByteArray) (i : Nat) : List UInt8 := (cleanC s).take i ++ (rawC s).drop i
theorem rawC_length (s : ByteArray) : (rawC s).length = min s.size 50 := by simp [rawC]; omega
theorem cleanC_length (s : ByteArray) : (cleanC s).length = min s.size 50 := by simp [cleanC, rawC_length]
theorem toC_length (s : ByteArray) (i : Nat) : (toC s i).length = min s.size 50 := by
  simp only [toC, List.length_append, List.length_take, List.length_drop, rawC_length, cleanC_length]; omega
theorem toC_zero (s : ByteArray) : toC s 0 = rawC s := by simp [toC]
theorem toC_end (s : ByteArray) : toC s (min s.size 50) = cleanC s := by
  rw [toC, List.take_of_length_le (by rw [cleanC_length]; omega), List.drop_of_length_le (by rw [rawC_length]; omega), List.append_nil]
theorem toC_get (s : ByteArray) (i : Nat) (h : i < (toC s i).length) (h' : i < (rawC s).length) : (toC s i)[i] = (rawC s)[i] := by
  have e : ((cleanC s).take i).length = i := by rw [List.length_take, cleanC_length]; rw [rawC_length] at h'; omega
  simp only [toC]
  rw [List.getElem_append_right (by omega)]
  simp [e]
theorem toC_succ (s : ByteArray) (i : Nat) (h' : i < (rawC s).length) : toC s (i + 1) = (toC s i).set i (noFeed (rawC s)[i]) := by
  have hn : i < (cleanC s).length := by rw [cleanC_length]; rw [rawC_length] at h'; exact h'
  have e : ((cleanC s).take i).length = i := by rw [List.length_take]; omega
  have hget : (cleanC s)[i] = noFeed (rawC s)[i] := by simp [cleanC]
  rw [toC, toC, List.set_append_right _ _ (by omega), e, Nat.sub_self, List.drop_eq_getElem_cons h', List.set_cons_zero, List.take_succ_eq_append_getElem hn, hget]
  simp
theorem clean_ne (s : ByteArray) : ∀ c ∈ cleanC s, c ≠ 10 := by
  intro c hc
  obtain ⟨x, _, rfl⟩ := List.mem_map.1 hc
  unfold noFeed
  split
  · decide
  · intro e; subst e; rename_i h; exact h rfl
def joinC (l : List ByteArray) : List UInt8 := l.flatMap fun s => 9 :: 32 :: 37 :: (cleanC s ++ [10])
theorem joinC_snoc (l : List ByteArray) (s : ByteArray) : joinC (l ++ [s]) = joinC l ++ [9, 32, 37] ++ cleanC s ++ [10] := by simp [joinC]
theorem joinC_length : ∀ l : List ByteArray, (joinC l).length ≤ l.length * 54
  | [] => by simp [joinC]
  | s :: l => by
    have := joinC_length l
    have hc := cleanC_length s
    simp only [joinC, List.flatMap_cons, List.length_append, List.length_cons, List.length_nil] at this ⊢
    omega
theorem scan_joinC : ∀ (l : List ByteArray) (r : List UInt8) (line : Nat), scanS 0 (joinC l ++ r) line 1 = scanS 0 r (line + l.length) 1
  | [], r, line => rfl
  | s :: l, r, line => by
    have e : joinC (s :: l) ++ r = 9 :: 32 :: 37 :: (cleanC s ++ 10 :: (joinC l ++ r)) := by simp [joinC]
    rw [e, scan_tab, scan_blank, scan_comment _ _ (clean_ne s), scan_joinC l r (line + 1), List.length_cons, show line + 1 + l.length = line + (l.length + 1) by omega]
theorem scan_all (l : List ByteArray) : scanS 0 (joinC l ++ [32, 32]) 1 1 = .ok [⟨6, [], 0, 1 + l.length, 3⟩] := by
  rw [scan_joinC, scan_blank, scan_blank, scanS_nil]

set_option maxRecDepth 100000 in
set_option maxHeartbeats 16000000 in
theorem walk (ss : List ByteArray) (W : World) (v : Value) (hok : SignsOk W) (hss : RepT W ss v) :
    Calls Tryd.prog 12 #[v] W fun e W' => e = .returned (.bool true) ∧ Below W.heap.size W W' := by
  have HOK := Lib.hid hok
  have hg := signs_lt hok
  have HSS := Lib.hid hss
  obtain ⟨va, vb, vo, vc, rfl, hvc, hvm, -⟩ := hss
  unfold maxLen at hvm
  clear hok
  go_enter Tryd.func12, Tryd.ntmps12
  go_wp2_with fail
  refine (awake3_any _ hg HOK.out).mono ?_
  rintro e w1 ⟨rfl, b1⟩
  have HS1 := Lib.hid (HSS.out.on b1)
  have B1 := Lib.hid b1
  clear b1
  go_wp2_with fail
  obtain ⟨n, hn⟩ : ∃ n, n = min ss.length 10 := ⟨_, rfl⟩
  go_loopw [4, 5, 6, 7, 8] (fun t c i _ _ wr => ∃ (k : Nat) (tb : ByteArray), k ≤ n ∧ t = .string tb ∧ Hid (tb.data.toList = joinC (ss.take k)) ∧ c = .int .i64 k ∧ i = .int .i64 k ∧ Below w1.heap.size w1 wr) (fun _ _ i _ _ _ => n - (intOf i).toNat)
  case atStart => exact ⟨0, ⟨#[]⟩, Nat.zero_le _, rfl, rfl, rfl, rfl, Below.refl _ _⟩
  case round =>
    obtain ⟨k, tb, hk, rfl, htb, rfl, rfl, hbel⟩ := hrel
    generalize wr = w2 at *
    have HBEL := Lib.hid hbel
    have htsz : tb.size ≤ 540 := by
      have h1 := joinC_length (ss.take k)
      have h3 := list_len tb
      rw [htb.out] at h3
      rw [List.length_take] at h1
      omega
    have HSR := Lib.hid (HS1.out.on hbel)
    clear hbel
    by_cases hlt : k < n
    · have hl : k < ss.length := by omega
      have h10 : k < 10 := by omega
      obtain ⟨va', vb', vo', vc', he, -, -, hva, hcell⟩ := HSR.out
      cases he
      obtain ⟨rfl, hvb⟩ := hva (by omega)
      obtain ⟨q0, hq⟩ := hcell k hl
      have HJ : Hid (joinC (ss.take (k + 1)) = joinC (ss.take k) ++ [9, 32, 37] ++ cleanC ss[k] ++ [10]) := by show _ = _; rw [List.take_succ_eq_append_getElem hl, joinC_snoc]
      generalize ss[k] = s at *
      clear hcell hva hn
      unfold maxLen at hq
      have hconv := conv_to
      go_wp2_with fail
      go_region
      have hraw : (s.extract 0 (min (s.size : Int) 50).toNat).data.toList = rawC s := by
        rw [rawC]
        have e : (min (s.size : Int) 50).toNat = min s.size 50 := by omega
        rw [e, ByteArray.data_extract]
        simp
        omega
      have hby : BytesAt (Lib.bytesWorld w2.drew 5 (s.extract 0 (min (s.size : Int) 50).toNat)) w2.heap.size (s.extract 0 (min (s.size : Int) 50).toNat).data.toList := bytes_new w2.drew _
      have hbe : Below w2.heap.size w2 (Lib.bytesWorld w2.drew 5 (s.extract 0 (min (s.size : Int) 50).toNat)) := Below.trans (Below.drew (Below.refl _ _)) (bytes_below w2.drew _)
      rw [hraw] at hby
      have hlen : min (min (s.size : Int) 50).toNat s.size = (rawC s).length := by rw [rawC_length]; omega
      generalize Lib.bytesWorld w2.drew 5 (s.extract 0 (min (s.size : Int) 50).toNat) = w3 at *
      generalize grownCap w2.drew (min (min (s.size : Int) 50).toNat s.size) 0 5 = cap at *
      generalize min (min (s.size : Int) 50).toNat s.size = tl at *
      have hl50 : tl ≤ 50 := by rw [hlen, rawC_length]; omega
      have HLEN := Lib.hid hlen
      rw [← toC_zero] at hby
      have HBY := Lib.hid hby; have HBE := Lib.hid hbe
      clear hlen hraw hconv hby hbe q0
      go_wp2_with fail
      go_loopw [8] (fun i wx => ∃ j : Nat, j ≤ tl ∧ i = .int .i64 j ∧ BytesAt wx w2.heap.size (toC s j) ∧ Below w2.heap.size w2 wx) (fun i _ => tl - (intOf i).toNat)
      case atStart => exact ⟨0, Nat.zero_le _, rfl, HBY.out, HBE.out⟩
      case round =>
        obtain ⟨j, hj, rfl, hb, hbx⟩ := hrel
        generalize wr = wx at *
        have HBX := Lib.hid hbx
        clear hbx
        by_cases hjl : j < tl
        · have hkr : j < (rawC s).length := by rw [← HLEN.out]; exact hjl
          have hkn : j < (toC s j).length := by rw [toC_length, ← rawC_length]; exact hkr
          have hc := hb.cell j hkn
          have hf := hb.free j hkn
          have hge := toC_get s j hkn hkr
          have HSELF := Lib.hid (@List.set_getElem_self _ (toC s j) j hkn)
          rw [hge] at hc HSELF
          have HSU := Lib.hid (toC_succ s j hkr)
          have HB := Lib.hid hb; clear hb hge
          generalize (rawC s)[j] = c at *
          by_cases h10c : c.toNat = 10
          · have HN : Hid (noFeed c = 9) := by show _ = _; rw [noFeed, if_pos h10c]
            have t1 : ((c.toNat : Int) == 10) = true := beq_iff_eq.2 (by omega)
            have HB2 : Hid (BytesAt (wx.setCell ⟨w2.heap.size, j, none⟩ (.int .u8 9)) w2.heap.size (toC s (j + 1))) := by
              show BytesAt _ _ _
              rw [HSU.out, HN.out]
              exact HB.out.set j 9
            clear h10c
            go_wp2_with fail
            go_roundw
            case rel => exact ⟨j + 1, by omega, by go_num, HB2.out, HBX.out.setCell (p := ⟨w2.heap.size, j, none⟩) (Nat.le_refl _) _⟩
            case measure => first | (simp [intOf]; omega) | simp [intOf]
          · have HN : Hid (noFeed c = c) := by show _ = _; rw [noFeed, if_neg h10c]
            have t1 : ((c.toNat : Int) == 10) = false := beq_eq_false_iff_ne.2 (by omega)
            have HB2 : Hid (BytesAt wx w2.heap.size (toC s (j + 1))) := by
              show BytesAt _ _ _
              rw [HSU.out, HN.out, HSELF.out]
              exact HB.out
            clear h10c
            go_wp2_with fail
            go_roundw
            case rel => exact ⟨j + 1, by omega, by go_num, HB2.out, HBX.out⟩
            case measure => first | (simp [intOf]; omega) | simp [intOf]
        · have hje : j = tl := by omega
          have htl : tl = min s.size 50 := by rw [HLEN.out, rawC_length]
          rw [hje, htl, toC_end] at hb
          have hback := conv_back wx w2.heap.size cap (cleanC s) hb
          have hcl : (cleanC s).length = tl := by rw [cleanC_length, htl]
          rw [hcl] at hback
          have HU : Hid ((((tb ++ ⟨#[9, 32, 37]⟩) ++ ⟨(cleanC s).toArray⟩) ++ ⟨#[10]⟩ : ByteArray).data.toList = joinC (ss.take (k + 1))) := by
            show _ = _
            rw [HJ.out, bytes_app, bytes_app, bytes_app, htb.out]
          have hcs : (⟨(cleanC s).toArray⟩ : ByteArray).size ≤ 50 := by rw [size_mk, hcl]; omega
          generalize (⟨(cleanC s).toArray⟩ : ByteArray) = u at *
          clear hb hcl htl hje HJ HBY HBE
          go_wp2_with fail
          go_roundw
          case rel => exact ⟨k + 1, _, by omega, rfl, HU, by go_num, by go_num, HBEL.out.trans (HBX.out.mono HBEL.out.size)⟩
          case measure => first | (simp [intOf]; omega) | simp [intOf]
    · have hke : k = n := by omega
      have htk : (ss.take k).length = k := by rw [List.length_take]; omega
      have HSC : Hid (scanB (tb ++ ⟨#[32, 32]⟩) = .ok [⟨6, [], 0, 1 + k, 3⟩]) := by
        show _ = _
        have hz : (tb ++ ⟨#[32, 32]⟩ : ByteArray).size = tb.size + 2 := by rw [ByteArray.size_append]; rfl
        rw [scanB, if_neg (by omega), bytes_app, htb.out]
        have := scan_all (ss.take k)
        rw [htk] at this
        exact this
      have hgr : 0 < w2.heap.size := Nat.lt_of_lt_of_le hg (Below.step B1.out HBEL.out).size
      have HZ : Hid ((tb ++ ⟨#[32, 32]⟩ : ByteArray).size ≤ maxLen) := by show _ ≤ _; rw [ByteArray.size_append]; unfold maxLen; show tb.size + 2 ≤ _; omega
      have hk10 : k ≤ 10 := by omega
      have hcase : ss.length ≤ k ∨ (k < ss.length ∧ k = 10) := by omega
      clear hke htk hn
      rcases hcase with hca | ⟨hca, hcb⟩
      case' inr => subst hcb
      all_goals
        go_wp2_with fail
        refine (scan_any _ _ HZ.out hgr (HOK.out.below hg (Below.step B1.out HBEL.out))).mono ?_
        rw [HSC.out]
        rintro e w5 ⟨u, rfl, ho, b5⟩
        have hO := ho.tok.on (stands_alloc w5 (.cells #[.int .i64 0, .int .i64 0] 48))
        obtain ⟨ua, uc, rfl, -, hat⟩ := hO
        obtain ⟨b, -, rfl, hcl⟩ := hat (by simp)
        obtain ⟨c0, c1, c2, c3, c4⟩ := hcl 0 (by simp)
        simp only [List.getElem_cons_zero, Nat.zero_mul, Nat.zero_add] at c0 c1 c2 c3 c4
        have B6 := Lib.hid (Below.step (Below.step (Below.step B1.out HBEL.out) b5) (stands_alloc w5 (.cells #[.int .i64 0, .int .i64 0] 48)))
        clear hat hcl ho b5
        go_wp2_with fail
        go_ret
        exact ⟨rfl, B6.out⟩

end Go.Proofs.YtgkgnfafjbjbnaaDoor.lexerNothing
