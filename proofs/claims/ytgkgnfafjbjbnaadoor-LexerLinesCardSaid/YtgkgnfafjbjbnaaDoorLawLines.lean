/-
  LexerLines: for every two numbers and raw token the law returns true: a token behind so many line feeds, and so many blanks, has this place; so has the end.
-/
import Derived.Test.YtgkgnfafjbjbnaaDoorLexOpen
import Derived.Test.YtgkgnfafjbjbnaaDoorLawAgainKit
import Derived.Test.YtgkgnfafjbjbnaaDoorLexRaw
namespace Go.Proofs.YtgkgnfafjbjbnaaDoor.lexerLines
open Go.ChangeShapes Go.WideShapes Go.ChangeAt Go.RowKit

def feeds : Nat → List UInt8
  | 0 => []
  | k + 1 => feeds k ++ [32, 10]
theorem feeds_length : ∀ k, (feeds k).length = 2 * k
  | 0 => rfl
  | k + 1 => by rw [feeds, List.length_append, feeds_length k]; simp; omega
theorem scan_feeds : ∀ (k : Nat) (r : List UInt8) (line : Nat), scanS 0 (feeds k ++ r) line 1 = scanS 0 r (line + k) 1
  | 0, _, _ => rfl
  | k + 1, r, line => by
    rw [feeds, List.append_assoc, scan_feeds k _ line]
    show scanS 0 (32 :: 10 :: r) _ _ = _
    rw [scan_blank, scan_feed]; rfl
def blanks : Nat → List UInt8
  | 0 => []
  | k + 1 => blanks k ++ [32]
theorem blanks_length : ∀ k, (blanks k).length = k
  | 0 => rfl
  | k + 1 => by rw [blanks, List.length_append, blanks_length k]; rfl
theorem scan_blanks : ∀ (k : Nat) (r : List UInt8) (line col : Nat), scanS 0 (blanks k ++ r) line col = scanS 0 r line (col + k)
  | 0, _, _, _ => rfl
  | k + 1, r, line, col => by
    rw [blanks, List.append_assoc, scan_blanks k _ line col]
    show scanS 0 (32 :: r) _ _ = _
    rw [scan_blank]; rfl
theorem scan_all (n m : Nat) (t : Read) (h : Good t) : scanS 0 (feeds n ++ blanks m ++ wordOf t) 1 1 = .ok [Tok.of t (1 + n) (1 + m), ⟨6, [], 0, 1 + n, 1 + m + (wordOf t).length⟩] := by
  rw [List.append_assoc, scan_feeds, scan_blanks]
  have := scan_word h [] (.inl rfl) (1 + n) (1 + m)
  rw [List.append_nil, scanS_nil] at this
  rw [this]; rfl

def BoxR (w : World) (k : Nat) (c0 c1 c2 : Value) : Prop := w.heap[k]? = some (.cells #[c0, c1, c2] 56 (0, 0))

set_option maxRecDepth 100000 in
set_option maxHeartbeats 16000000 in
theorem walk (fd bl : Int) (x : Raw) (W : World) (hok : SignsOk W) (hfd : I64 fd) (hbl : I64 bl) (hx : RawOk x) :
    Calls Tryd.prog 11 #[.int .i64 fd, .int .i64 bl, .agg #[.int .i64 x.kind, .string x.s, .int .i64 x.n]] W fun e W' => e = .returned (.bool true) ∧ Below W.heap.size W W' := by
  have HOK := Lib.hid hok
  have hg := signs_lt hok
  have HX := Lib.hid hx
  clear hok hx
  go_enter Tryd.func11, Tryd.ntmps11
  go_wp2_with fail
  have xA : BoxR (W.alloc (.cells #[.int .i64 x.kind, .string x.s, .int .i64 x.n] 56)) W.heap.size (.int .i64 x.kind) (.string x.s) (.int .i64 x.n) := alloc_new' _ _
  have bA := stands_alloc W (.cells #[.int .i64 x.kind, .string x.s, .int .i64 x.n] 56)
  have hsA := World.size_alloc W (.cells #[.int .i64 x.kind, .string x.s, .int .i64 x.n] 56)
  generalize W.alloc (.cells #[.int .i64 x.kind, .string x.s, .int .i64 x.n] 56) = wA at *
  refine (awake3_any _ (Nat.lt_of_lt_of_le hg bA.size) (HOK.out.below hg bA)).mono ?_
  rintro e w1 ⟨rfl, b1⟩
  have X1 : Hid (BoxR w1 W.heap.size (.int .i64 x.kind) (.string x.s) (.int .i64 x.n)) := (b1.block _ (by omega)).trans xA
  have B1 := Lib.hid (Below.step bA b1)
  have hs1 : W.heap.size < w1.heap.size := by have := b1.size; omega
  clear xA bA hsA b1
  go_wp2_with fail
  refine (pick3_any _ 51 _ hfd (by omega) (by omega)).mono ?_
  rintro e w' ⟨rfl, rfl⟩
  obtain ⟨hn1, hn2⟩ := pickZ_bd fd 51 (by omega)
  obtain ⟨n, hn⟩ := Int.eq_ofNat_of_zero_le hn1
  rw [hn] at hn2 ⊢
  clear hn hn1
  go_wp2_with fail
  refine (pick3_any _ 51 _ hbl (by omega) (by omega)).mono ?_
  rintro e w' ⟨rfl, rfl⟩
  obtain ⟨hm1, hm2⟩ := pickZ_bd bl 51 (by omega)
  obtain ⟨m, hm⟩ := Int.eq_ofNat_of_zero_le hm1
  rw [hm] at hm2 ⊢
  clear hm hm1
  have hn51 : n < 51 := by omega
  have hm51 : m < 51 := by omega
  clear hn2 hm2
  go_wp2_with fail
  go_loopw [10, 11] (fun t i wr => ∃ (k : Nat) (tb : ByteArray), k ≤ n ∧ t = .string tb ∧ Hid (tb.data.toList = feeds k) ∧ i = .int .i64 k ∧ wr = w1) (fun _ i _ => n - (intOf i).toNat)
  case atStart => exact ⟨0, ⟨#[]⟩, Nat.zero_le _, rfl, rfl, rfl, rfl⟩
  case round =>
    obtain ⟨k, tb, hk, rfl, htb, rfl, rfl⟩ := hrel
    have htsz : tb.size ≤ 100 := by
      have h3 := list_len tb
      rw [htb.out, feeds_length] at h3
      omega
    by_cases hlt : k < n
    · have HU : Hid ((tb ++ ⟨#[32, 10]⟩ : ByteArray).data.toList = feeds (k + 1)) := by show _ = _; rw [bytes_app, htb.out]; rfl
      go_wp2_with fail
      go_roundw
      case rel => exact ⟨k + 1, _, by omega, rfl, HU, by go_num, by trivial⟩
      case measure => first | (simp [intOf]; omega) | simp [intOf]
    · have hke : k = n := by omega
      have HTB : Hid (tb.data.toList = feeds n) := by show _ = _; rw [htb.out, hke]
      clear hke hk htb
      go_wp2_with fail
      generalize tb = tc at *
      go_loopw [10, 12] (fun t i wy => ∃ (k : Nat) (tb : ByteArray), k ≤ m ∧ t = .string tb ∧ Hid (tb.data.toList = feeds n ++ blanks k) ∧ i = .int .i64 k ∧ wy = wr) (fun _ i _ => m - (intOf i).toNat)
      case atStart => exact ⟨0, tc, Nat.zero_le _, rfl, (by show _ = _; rw [HTB.out, blanks, List.append_nil]), rfl, rfl⟩
      case round =>
        obtain ⟨k', tb, hk, rfl, htb, rfl, rfl⟩ := hrel
        have htsz : tb.size ≤ 150 := by
          have h3 := list_len tb
          rw [htb.out, List.length_append, feeds_length, blanks_length] at h3
          omega
        by_cases hlt' : k' < m
        · have HU : Hid ((tb ++ ⟨#[32]⟩ : ByteArray).data.toList = feeds n ++ blanks (k' + 1)) := by show _ = _; rw [bytes_app, htb.out, List.append_assoc]; rfl
          go_wp2_with fail
          go_roundw
          case rel => exact ⟨k' + 1, _, by omega, rfl, HU, by go_num, by trivial⟩
          case measure => first | (simp [intOf]; omega) | simp [intOf]
        · have hke : k' = m := by omega
          obtain ⟨hgood, hkind, hwl⟩ := rawR_facts x.kind x.s x.n
          have p0 := cell_of_block' (i := 0) X1.out _ rfl
          have p1 := cell_of_block' (i := 1) X1.out _ rfl
          have p2 := cell_of_block' (i := 2) X1.out _ rfl
          have hws : (⟨(wordOf (rawR x.kind x.s x.n)).toArray⟩ : ByteArray).size ≤ 34 := by rw [size_mk]; exact hwl
          have HSC : Hid (scanB (tb ++ ⟨(wordOf (rawR x.kind x.s x.n)).toArray⟩) = .ok [Tok.of (rawR x.kind x.s x.n) (1 + n) (1 + m), ⟨6, [], 0, 1 + n, 1 + m + (wordOf (rawR x.kind x.s x.n)).length⟩]) := by
            show _ = _
            have hz : (tb ++ ⟨(wordOf (rawR x.kind x.s x.n)).toArray⟩ : ByteArray).size ≤ 20000 := by rw [ByteArray.size_append]; omega
            rw [scanB, if_neg (by omega), bytes_app, htb.out, hke]
            exact scan_all n m _ hgood
          have hwz : (⟨(wordOf (rawR x.kind x.s x.n)).toArray⟩ : ByteArray).size = (wordOf (rawR x.kind x.s x.n)).length := size_mk _
          clear hke htb hgood hkind HTB
          go_wp2_with fail
          refine (word_any x.kind x.s x.n _ HX.out.1 (by have := HX.out.2.1; omega) HX.out.2.2).mono ?_
          rintro e w2 ⟨rfl, b2⟩
          have B2 := Lib.hid (Below.step B1.out b2)
          clear b2 p0 p1 p2
          generalize wordOf (rawR x.kind x.s x.n) = wd at *
          generalize rawR x.kind x.s x.n = rd at *
          generalize (⟨wd.toArray⟩ : ByteArray) = u at *
          rw [← hwz] at HSC
          clear hwz hwl
          go_wp2_with fail
          refine (scan_any _ _ (by rw [ByteArray.size_append]; unfold maxLen; omega) (Nat.lt_of_lt_of_le hg B2.out.size) (HOK.out.below hg B2.out)).mono ?_
          rw [HSC.out]
          rintro e w5 ⟨v, rfl, ho, b5⟩
          have hO := ho.tok.on (stands_alloc w5 (.cells #[.int .i64 0, .int .i64 0] 48))
          obtain ⟨ua, uc, rfl, huc, hat⟩ := hO
          obtain ⟨b, -, rfl, hcl⟩ := hat (by simp)
          obtain ⟨c0, c1, c2, c3, c4⟩ := hcl 0 (by simp)
          obtain ⟨d0, d1, d2, d3, d4⟩ := hcl 1 (by simp)
          simp only [List.getElem_cons_zero, List.getElem_cons_succ, Nat.zero_mul, Nat.zero_add, Nat.one_mul, Nat.reduceAdd, Tok.of, List.length_cons, List.length_nil] at c0 c1 c2 c3 c4 d0 d1 d2 d3 d4 huc
          rw [show ((1 + n : Nat) : Int) = (n : Int) + 1 by omega] at c3 d3
          rw [show ((1 + m : Nat) : Int) = (m : Int) + 1 by omega] at c4
          rw [show ((1 + m + u.size : Nat) : Int) = (m : Int) + 1 + (u.size : Int) by omega] at d4
          have B6 := Lib.hid (Below.step (Below.step B2.out b5) (stands_alloc w5 (.cells #[.int .i64 0, .int .i64 0] 48)))
          clear hat hcl ho b5
          go_wp2_with fail
          go_ret
          exact ⟨rfl, B6.out⟩

end Go.Proofs.YtgkgnfafjbjbnaaDoor.lexerLines
