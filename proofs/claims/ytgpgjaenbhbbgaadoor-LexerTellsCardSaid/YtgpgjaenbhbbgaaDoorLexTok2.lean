/-
  lexer's readers of texts, numbers and signs, as contracts.
-/
import Derived.Test.YtgpgjaenbhbbgaaDoorLexTok

namespace Go.Proofs.YtgpgjaenbhbbgaaDoor
open Go.RowKit

theorem tail_mk (s : ByteArray) : s.extract 1 s.size = ⟨s.data.toList.tail.toArray⟩ := by
  apply ByteArray.ext
  rw [ByteArray.data_extract]
  apply Array.toList_inj.1
  rw [Array.toList_extract]
  simp only [List.extract_eq_take_drop, List.drop_one]
  rw [List.take_of_length_le (by simp)]
theorem right_text (x : ByteArray) : rightV 4 (.mk 2 0 x []) = textB x := by
  rw [rightV_mk, baseB, if_neg (by decide), if_pos rfl]; simp

set_option maxRecDepth 100000 in
set_option maxHeartbeats 4000000 in
theorem ltext_any (s : ByteArray) (w : World) (hs : s.size ≤ 20000) (hs1 : 1 ≤ s.size) :
    Calls Tryd.prog 82 #[.string s] w (ReadPost (textR s.data.toList) w) := by
  have HIN := Lib.hid (tail_mk s)
  have hsz : (⟨s.data.toList.tail.toArray⟩ : ByteArray).size = s.size - 1 := by rw [size_mk]; simp
  have hsp := span_size notQuoteZ ⟨s.data.toList.tail.toArray⟩
  have HST := Lib.hid (span_take notQuoteZ ⟨s.data.toList.tail.toArray⟩)
  have HN : Hid (textR s.data.toList = if spanL notQuoteZ s.data.toList.tail = s.data.toList.tail.length then none else if textB ⟨(s.data.toList.tail.takeWhile (onB notQuoteZ)).toArray⟩ = true then some ⟨4, s.data.toList.tail.takeWhile (onB notQuoteZ), 0, spanL notQuoteZ s.data.toList.tail + 2⟩ else none) := by show _ = _; rfl
  have hll : s.data.toList.tail.length = s.size - 1 := by simp
  have HSL : Hid (spanL notQuoteZ s.data.toList.tail = (s.data.toList.tail.takeWhile (onB notQuoteZ)).length) := by show _ = _; rfl
  have hdl : (⟨s.data.toList.tail.toArray⟩ : ByteArray).data.toList = s.data.toList.tail := by simp
  rw [hdl] at HST hsp
  generalize hin : (⟨s.data.toList.tail.toArray⟩ : ByteArray) = u at *
  generalize s.data.toList.tail.takeWhile (onB notQuoteZ) = x at *
  generalize hls : spanL notQuoteZ s.data.toList.tail = n at *
  have HSP := Lib.hid (span_any set_quote u)
  have HLS : Hid (spanL notQuoteZ u.data.toList = n) := by show _ = _; rw [hdl, hls]
  have hmx : u.size ≤ 20000 := by omega
  have HSZ := Lib.hid hsz
  clear hin hdl hls hs
  rw [hll] at HN
  clear hll hsz
  go_enter Tryd.func82, Tryd.ntmps82
  go_wp2_with fail
  have x1 := boxed5_new w (.int .i64 0) (.string ⟨#[]⟩) (.int .i64 0) (.int .i64 0) (.int .i64 0)
  have b1 := stands_alloc w (.cells #[.int .i64 0, .string ⟨#[]⟩, .int .i64 0, .int .i64 0, .int .i64 0] 71)
  generalize w.alloc (.cells #[.int .i64 0, .string ⟨#[]⟩, .int .i64 0, .int .i64 0, .int .i64 0] 71) = w1 at *
  rw [HIN.out]
  refine (HSP.out _ (by unfold maxLen; omega)).mono ?_
  rw [HLS.out]
  rintro e w2 ⟨rfl, b2⟩
  have X2 := Lib.hid (x1.on b2); have B2 := Lib.hid (Below.step b1 b2)
  clear x1 b1 b2
  by_cases hn : n = s.size - 1
  · have HE : Hid (textR s.data.toList = none) := by show _ = _; rw [HN.out, if_pos hn]
    have X2o := X2.out
    obtain ⟨r0, r1, r2, r3, r4⟩ := X2o.cells
    have z0 := frozen_of_row w2 _ 0 _ _ X2o
    have z1 := frozen_of_row w2 _ 1 _ _ X2o
    have z2 := frozen_of_row w2 _ 2 _ _ X2o
    have z3 := frozen_of_row w2 _ 3 _ _ X2o
    have z4 := frozen_of_row w2 _ 4 _ _ X2o
    clear X2o
    have hnb : ((n : Int) == (u.size : Int)) = true := by have := HSZ.out; simp; omega
    clear hn
    go_wp2_with fail
    refine bodyPost_ret (v := .tuple #[.agg #[.int .i64 0, .string ⟨#[]⟩, .int .i64 0, .int .i64 0, .int .i64 0], .int .i64 0]) (by simp [results, Tryd.results82, go_sem, r0, r1, r2, r3, r4]) rfl ?_
    rw [HE.out]
    exact ⟨rfl, stored5 B2.out _ (Nat.le_refl _) _ _ _ _ _⟩
  · have hnb : ((n : Int) == (u.size : Int)) = false := by have := HSZ.out; simp; omega
    have HN2 : Hid (textR s.data.toList = if textB ⟨x.toArray⟩ = true then some ⟨4, x, 0, n + 2⟩ else none) := by show _ = _; rw [HN.out, if_neg hn]
    have hxs : (⟨x.toArray⟩ : ByteArray).size ≤ 140737488355328 := by rw [size_mk, ← HSL.out]; omega
    clear hn
    go_wp2_with fail
    rw [HST.out]
    generalize hxa : (⟨x.toArray⟩ : ByteArray) = xa at *
    refine (text_any _ _).mono ?_
    rintro e w3 ⟨rfl, b3⟩
    have X3 := Lib.hid (X2.out.on b3); have B3 := Lib.hid (Below.step B2.out b3)
    clear X2 B2 b3
    go_wp2_with fail
    refine (right_any (.mk 2 0 xa []) 0 _ _ _ _ _ (Nat.zero_le _) (repV_str _ _ _ _ ⟨by omega, by omega⟩ (by unfold maxLen; omega))).mono ?_
    rw [right_text]
    rintro e w4 ⟨rfl, b4⟩
    have X4 := X3.out.on b4; have B4 := Lib.hid (Below.step B3.out b4)
    obtain ⟨r0, r1, r2, r3, r4⟩ := X4.cells
    have z0 := frozen_of_row w4 _ 0 _ _ X4
    have z1 := frozen_of_row w4 _ 1 _ _ X4
    have z2 := frozen_of_row w4 _ 2 _ _ X4
    have z3 := frozen_of_row w4 _ 3 _ _ X4
    have z4 := frozen_of_row w4 _ 4 _ _ X4
    clear X3 B3 b4 X4
    have hst := HST.out
    cases hr : textB xa with
    | false =>
      have HE : Hid (textR s.data.toList = none) := by show _ = _; rw [HN2.out, hr]; rfl
      clear hr
      go_wp2_with fail
      refine bodyPost_ret (v := .tuple #[.agg #[.int .i64 0, .string ⟨#[]⟩, .int .i64 0, .int .i64 0, .int .i64 0], .int .i64 0]) (by simp [results, Tryd.results82, go_sem, r0, r1, r2, r3, r4]) rfl ?_
      rw [HE.out]
      exact ⟨rfl, stored5 B4.out _ (Nat.le_refl _) _ _ _ _ _⟩
    | true =>
      have HE : Hid (textR s.data.toList = some ⟨4, x, 0, n + 2⟩) := by show _ = _; rw [HN2.out, hr]; rfl
      clear hr
      have HXA := Lib.hid hxa
      clear hxa
      go_wp2_with fail
      refine bodyPost_ret (v := .tuple #[.agg #[.int .i64 4, .string xa, .int .i64 0, .int .i64 0, .int .i64 0], .int .i64 (n + 2)]) (by simp [results, Tryd.results82, go_sem, r0, r1, r2, r3, r4]) rfl ?_
      rw [HE.out]
      exact ⟨by rw [← HXA.out]; rfl, stored5 B4.out _ (Nat.le_refl _) _ _ _ _ _⟩

/-! ### numbers -/

theorem numL_snoc (l : List UInt8) (c : UInt8) : numL (l ++ [c]) = 10 * numL l + ((c.toNat : Int) - 48) := by simp [numL]
theorem numL_bd : ∀ (l : List UInt8) (n : Int), 0 ≤ n → (∀ c ∈ l, digitZ (c.toNat : Int) = true) → 0 ≤ l.foldl (fun n (c : UInt8) => 10 * n + ((c.toNat : Int) - 48)) n ∧ l.foldl (fun n (c : UInt8) => 10 * n + ((c.toNat : Int) - 48)) n + 1 ≤ (n + 1) * 10 ^ l.length
  | [], n, h, _ => by simp; exact h
  | c :: l, n, h, hd => by
    have hc := digit_range.1 (hd c (by simp))
    obtain ⟨h1, h2⟩ := numL_bd l (10 * n + ((c.toNat : Int) - 48)) (by omega) (fun x hx => hd x (by simp [hx]))
    rw [List.foldl_cons]
    refine ⟨h1, Int.le_trans h2 ?_⟩
    rw [List.length_cons, Int.pow_succ, show (n + 1) * (10 ^ l.length * 10) = ((n + 1) * 10) * (10 : Int) ^ l.length by rw [Int.mul_comm (10 ^ l.length), Int.mul_assoc]]
    exact Int.mul_le_mul_of_nonneg_right (by omega) (Int.pow_nonneg (by omega))
theorem numL_small (l : List UInt8) (hd : ∀ c ∈ l, digitZ (c.toNat : Int) = true) (hl : l.length ≤ 10) : 0 ≤ numL l ∧ numL l < 10000000000 := by
  obtain ⟨h1, h2⟩ := numL_bd l 0 (by omega) hd
  refine ⟨h1, ?_⟩
  have : (10 : Int) ^ l.length ≤ 10 ^ 10 := by
    have := Nat.pow_le_pow_right (n := 10) (by omega) hl
    exact_mod_cast this
  have e : (10 : Int) ^ 10 = 10000000000 := by decide
  have h3 : numL l = l.foldl (fun n (c : UInt8) => 10 * n + ((c.toNat : Int) - 48)) 0 := rfl
  omega

set_option maxRecDepth 100000 in
set_option maxHeartbeats 4000000 in
theorem lnum_any (s : ByteArray) (w : World) (hs : s.size ≤ maxLen) :
    Calls Tryd.prog 81 #[.string s] w (ReadPost (numR s.data.toList) w) := by
  have HSZ := Lib.hid hs
  unfold maxLen at hs
  have hsp := span_size digitZ s
  have HST := Lib.hid (span_take digitZ s)
  have HSL : Hid (spanL digitZ s.data.toList = (s.data.toList.takeWhile (onB digitZ)).length) := by show _ = _; rfl
  have HD : Hid (∀ c ∈ s.data.toList.takeWhile (onB digitZ), digitZ (c.toNat : Int) = true) := fun c hc => (List.all_eq_true.1 List.all_takeWhile) c hc
  have HN : Hid (numR s.data.toList = if 10 < spanL digitZ s.data.toList then none else if 2147483647 < numL (s.data.toList.takeWhile (onB digitZ)) then none else some ⟨3, s.data.toList.takeWhile (onB digitZ), numL (s.data.toList.takeWhile (onB digitZ)), spanL digitZ s.data.toList⟩) := by show _ = _; rfl
  go_enter Tryd.func81, Tryd.ntmps81
  go_wp2_with fail
  have x1 := boxed5_new w (.int .i64 0) (.string ⟨#[]⟩) (.int .i64 0) (.int .i64 0) (.int .i64 0)
  have b1 := stands_alloc w (.cells #[.int .i64 0, .string ⟨#[]⟩, .int .i64 0, .int .i64 0, .int .i64 0] 71)
  generalize w.alloc (.cells #[.int .i64 0, .string ⟨#[]⟩, .int .i64 0, .int .i64 0, .int .i64 0] 71) = w1 at *
  refine (span_any set_digit s _ HSZ.out).mono ?_
  rintro e w2 ⟨rfl, b2⟩
  have X2 := Lib.hid (x1.on b2); have B2 := Lib.hid (Below.step b1 b2)
  clear x1 b1 b2
  have hl : (⟨(s.data.toList.takeWhile (onB digitZ)).toArray⟩ : ByteArray).size = (s.data.toList.takeWhile (onB digitZ)).length := size_mk _
  have hst := HST.out
  generalize s.data.toList.takeWhile (onB digitZ) = l at *
  rw [HSL.out] at hsp HN hst
  rw [HSL.out]
  by_cases hn : 10 < l.length
  · have HE : Hid (numR s.data.toList = none) := by show _ = _; rw [HN.out, if_pos hn]
    have X2o := X2.out
    obtain ⟨r0, r1, r2, r3, r4⟩ := X2o.cells
    have z0 := frozen_of_row w2 _ 0 _ _ X2o
    have z1 := frozen_of_row w2 _ 1 _ _ X2o
    have z2 := frozen_of_row w2 _ 2 _ _ X2o
    have z3 := frozen_of_row w2 _ 3 _ _ X2o
    have z4 := frozen_of_row w2 _ 4 _ _ X2o
    clear X2o
    go_wp2_with fail
    refine bodyPost_ret (v := .tuple #[.agg #[.int .i64 0, .string ⟨#[]⟩, .int .i64 0, .int .i64 0, .int .i64 0], .int .i64 0]) (by simp [results, Tryd.results81, go_sem, r0, r1, r2, r3, r4]) rfl ?_
    rw [HE.out]
    exact ⟨rfl, stored5 B2.out _ (Nat.le_refl _) _ _ _ _ _⟩
  · have hn' : l.length ≤ 10 := by omega
    have HN2 : Hid (numR s.data.toList = if 2147483647 < numL l then none else some ⟨3, l, numL l, l.length⟩) := by show _ = _; rw [HN.out, if_neg hn]
    clear hn HN
    generalize hu : (⟨l.toArray⟩ : ByteArray) = u at *
    go_wp2_with fail
    go_loopw [5, 7] (fun n _ wr => ∃ pos : Nat, pos ≤ l.length ∧ wr = w2.iter u pos ∧ n = .int .i64 (numL (l.take pos))) (fun _ _ wr => l.length - wr.iterPos w2.heap.size)
    case atStart => exact ⟨0, Nat.zero_le _, rfl, rfl⟩
    case round =>
      obtain ⟨pos, hpos, rfl, rfl⟩ := hrel
      have b3 : Below w2.heap.size w2 (w2.iter u pos) := stands_alloc w2 (.stringIter u pos)
      have B3 := Lib.hid (Below.step B2.out b3)
      have X3 := Lib.hid (X2.out.on b3)
      clear b3
      by_cases hp : pos < l.length
      · have hpu : pos < u.size := by rw [hl]; exact hp
        have hdg := HD.out l[pos] (List.getElem_mem hp)
        have hrg := digit_range.1 hdg
        have hby : u[pos] = l[pos] := by subst hu; exact valueNames.ba_get l pos hpu hp
        have hnx : ∀ ty, (Instr.next (.pointer (some ⟨w2.heap.size, 0, none⟩)) true ty).run Tryd.prog (w2.iter u pos) = _ := fun ty => run_next_ascii w2 u pos ty hpu (by rw [hby]; omega)
        rw [hby] at hnx
        have HTK : Hid (numL (l.take (pos + 1)) = 10 * numL (l.take pos) + ((l[pos].toNat : Int) - 48)) := by show _ = _; rw [List.take_succ_eq_append_getElem hp, numL_snoc]
        obtain ⟨hm1, hm2⟩ := numL_small (l.take pos) (fun c hc => HD.out c (List.mem_of_mem_take hc)) (by rw [List.length_take]; omega)
        generalize l[pos] = c at *
        generalize numL (l.take pos) = n at *
        clear hdg hby
        go_wp2_with fail
        go_roundw
        case rel => exact ⟨pos + 1, by omega, rfl, by rw [HTK.out]⟩
        case measure => simp; omega
      · have hpu : ¬ pos < u.size := by rw [hl]; exact hp
        have hnx : ∀ ty, (Instr.next (.pointer (some ⟨w2.heap.size, 0, none⟩)) true ty).run Tryd.prog (w2.iter u pos) = _ := fun ty => run_next_end w2 u pos ty hpu
        have htk : l.take pos = l := List.take_of_length_le (by omega)
        rw [htk]
        generalize numL l = n at *
        generalize hw3 : w2.iter u pos = w3 at *
        clear hw3
        have X3 := X3.out
        obtain ⟨r0, r1, r2, r3, r4⟩ := X3.cells
        have z0 := frozen_of_row _ _ 0 _ _ X3
        have z1 := frozen_of_row _ _ 1 _ _ X3
        have z2 := frozen_of_row _ _ 2 _ _ X3
        have z3 := frozen_of_row _ _ 3 _ _ X3
        have z4 := frozen_of_row _ _ 4 _ _ X3
        clear X3 X2 htk hpu
        by_cases hb : 2147483647 < n
        · have HE : Hid (numR s.data.toList = none) := by show _ = _; rw [HN2.out, if_pos hb]
          go_wp2_with fail
          refine bodyPost_ret (v := .tuple #[.agg #[.int .i64 0, .string ⟨#[]⟩, .int .i64 0, .int .i64 0, .int .i64 0], .int .i64 0]) (by simp [results, Tryd.results81, go_sem, r0, r1, r2, r3, r4]) rfl ?_
          rw [HE.out]
          exact ⟨rfl, stored5 B3.out _ (Nat.le_refl _) _ _ _ _ _⟩
        · have HE : Hid (numR s.data.toList = some ⟨3, l, n, l.length⟩) := by show _ = _; rw [HN2.out, if_neg hb]
          have hb' : n ≤ 2147483647 := by omega
          clear hb
          have HU := Lib.hid hu; clear hu
          go_wp2_with fail
          refine bodyPost_ret (v := .tuple #[.agg #[.int .i64 3, .string u, .int .i64 n, .int .i64 0, .int .i64 0], .int .i64 l.length]) (by simp [results, Tryd.results81, go_sem, r0, r1, r2, r3, r4]) rfl ?_
          rw [HE.out]
          exact ⟨by rw [← HU.out]; rfl, stored5 B3.out _ (Nat.le_refl _) _ _ _ _ _⟩

end Go.Proofs.YtgpgjaenbhbbgaaDoor
