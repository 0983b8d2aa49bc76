/-
  lexer.Scan, as a contract: the walk.
-/
import Derived.Test.YtgpgjaenbhbbgaaDoorLexScan
import Derived.Test.YtgpgjaenbhbbgaaDoorLexRise
import Derived.Deep.RegionLaw
namespace Go.Proofs.YtgpgjaenbhbbgaaDoor
open Go.RowKit

theorem extract_from (s : ByteArray) (pos : Nat) : (s.extract pos s.size).data.toList = s.data.toList.drop pos := by
  rw [ByteArray.data_extract, Array.toList_extract]
  simp only [List.extract_eq_take_drop]
  rw [List.take_of_length_le (by simp)]
theorem extract_size (s : ByteArray) (pos : Nat) : (s.extract pos s.size).size = s.size - pos := by simp

/-- What a rune tells of the byte it begins with. -/
theorem rune_byte (s : ByteArray) (pos : Nat) (h : pos < s.size) :
    (((Utf8.decode s pos).1 : Int) = 10 → s[pos].toNat = 10 ∧ (Utf8.decode s pos).2 = 1) ∧ (((Utf8.decode s pos).1 : Int) ≠ 10 → s[pos].toNat ≠ 10) ∧
    (blankZ ((Utf8.decode s pos).1 : Int) = true → blankZ (s[pos].toNat : Int) = true ∧ (Utf8.decode s pos).2 = 1) ∧ (blankZ ((Utf8.decode s pos).1 : Int) = false → blankZ (s[pos].toNat : Int) = false) ∧
    (((Utf8.decode s pos).1 : Int) = 37 → s[pos].toNat = 37 ∧ (Utf8.decode s pos).2 = 1) ∧ (((Utf8.decode s pos).1 : Int) ≠ 37 → s[pos].toNat ≠ 37) := by
  have hb : ∀ r : Int, 128 ≤ r → blankZ r = false := fun r hr => by
    simp only [blankZ, Bool.or_eq_false_iff, beq_eq_false_iff_ne]; omega
  rcases rune_at s pos h with ⟨c, hc, he, hcc⟩ | ⟨g1, g2, g3⟩
  · rw [he, hcc]
    exact ⟨fun h => ⟨by omega, rfl⟩, fun h => by omega, fun h => ⟨h, rfl⟩, fun h => h, fun h => ⟨by omega, rfl⟩, fun h => by omega⟩
  · rw [hb _ (by omega : (128 : Int) ≤ ((Utf8.decode s pos).1 : Int)), hb _ (by omega : (128 : Int) ≤ (s[pos].toNat : Int))]
    exact ⟨fun h => by omega, fun h => by omega, (fun h => by cases h), fun h => rfl, fun h => by omega, fun h => by omega⟩

/-- What a token that is read takes. -/
theorem token_bounds (s : ByteArray) (pos : Nat) (h : pos < s.size) {t : Read} (ht : readL (s[pos].toNat : Int) (s.data.toList.drop pos) = some t) : (t.len ≤ s.size - pos ∧ 1 ≤ t.len) ∧ s[pos].toNat < 128 := by
  rw [drop_at s pos h] at ht
  have h0 := read_low ht 0 (by simp) (by have := (read_pos ht).1; omega)
  have h1 := read_len ht
  rw [List.length_drop, list_len] at h1
  exact ⟨⟨by omega, (read_pos ht).1⟩, h0⟩

set_option maxRecDepth 100000 in
set_option maxHeartbeats 16000000 in
theorem scan_long (s : ByteArray) (w : World) (h : 20000 < s.size) (hs : s.size ≤ maxLen) :
    Calls Tryd.prog 25 #[.string s] w (ScanPost (scanB s) w) := by
  have HE : Hid (scanB s = .bad 1 1) := by show _ = _; rw [scanB, if_pos h]
  unfold maxLen at hs
  go_enter Tryd.func25, Tryd.ntmps25
  have x1 := boxed2_new w (.int .i64 0) (.int .i64 0)
  obtain ⟨r0, r1⟩ := x1.cells
  have z0 := frozen_of_row _ _ 0 _ _ x1
  have z1 := frozen_of_row _ _ 1 _ _ x1
  go_wp2_with fail
  refine bodyPost_ret (v := .tuple #[.slice none 0 0, .int .i64 30, .agg #[.int .i64 1, .int .i64 1]]) (by simp [results, Tryd.results25, go_sem]) rfl ?_
  rw [HE.out]
  exact ⟨rfl, stands_alloc w _⟩

set_option maxRecDepth 100000 in
set_option maxHeartbeats 16000000 in
theorem scan_short (s : ByteArray) (w : World) (hs : s.size ≤ 20000) (hg : 0 < w.heap.size) (hok : SignsOk w) :
    Calls Tryd.prog 25 #[.string s] w (ScanPost (scanB s) w) := by
  have HE : Hid (scanB s = scanS 0 s.data.toList 1 1) := by show _ = _; rw [scanB, if_neg (by omega)]
  have HOK := Lib.hid hok
  clear hok
  go_enter Tryd.func25, Tryd.ntmps25
  go_wp2_with fail
  have bA := stands_alloc w (.cells #[.int .i64 0, .int .i64 0] 46)
  have xA := boxed2_new w (.int .i64 0) (.int .i64 0)
  have sA := World.size_alloc w (.cells #[.int .i64 0, .int .i64 0] 46)
  generalize w.alloc (.cells #[.int .i64 0, .int .i64 0] 46) = wA at *
  have bB : Below wA.heap.size wA (wA.iter s 0) := stands_alloc wA (.stringIter s 0)
  have hB : (wA.iter s 0).heap[w.heap.size + 1]? = some (.stringIter s 0) := by rw [← sA]; exact World.iter_heap wA s 0
  have sB : (wA.iter s 0).heap.size = wA.heap.size + 1 := World.size_alloc wA (.stringIter s 0)
  generalize wA.iter s 0 = wB at *
  have XB := Lib.hid (xA.on bB); have BB := Lib.hid (Below.step bA bB)
  have hsB : wB.heap.size = w.heap.size + 2 := by omega
  have HB := Lib.hid hB
  clear bA xA sA bB sB hB
  go_loopw [5, 6, 7, 8] (fun o ln st nx wr => ∃ (pos line start next : Nat) (toks : List Tok), Hid (Scans s pos line start next toks) ∧ Hid (wr.heap[w.heap.size + 1]? = some (.stringIter s pos)) ∧ Hid (OwnT wr (w.heap.size + 2) o toks) ∧ Hid (Below w.heap.size w wr) ∧ Hid (Boxed2 wr w.heap.size (.int .i64 0) (.int .i64 0)) ∧ w.heap.size + 2 ≤ wr.heap.size ∧ ln = .int .i64 line ∧ st = .int .i64 start ∧ nx = .int .i64 next) (fun _ _ _ _ wr => s.size - wr.iterPos (w.heap.size + 1))
  case atStart => exact ⟨0, 1, 0, 0, [], Scans.first s, HB.out, World.ownsRow_nil _ _ _ _, BB.out, XB.out, by omega, rfl, rfl, rfl⟩
  case round =>
    obtain ⟨pos, line, start, next, toks, hS, hit, hown, hbw, hbox, hsz, rfl, rfl, rfl⟩ := hrel
    have hpos0 := Lib.hid (iterPos_of hit.out)
    have hposs := hS.out.hpos; have hstart := hS.out.hstart; have hline := hS.out.hline; have hnext := hS.out.hnext; have hcount := hS.out.hcount
    clear HB XB BB hsB
    by_cases hp : pos < s.size
    · have hnx : ∀ ty, (Instr.next (.pointer (some ⟨w.heap.size + 1, 0, none⟩)) true ty).run Tryd.prog wr = _ := fun ty => Lib.run_next_any_at wr (w.heap.size + 1) s pos ty hit.out hp
      have HIT2 := Lib.hid (Lib.iterAt_heap wr (w.heap.size + 1) s pos (pos + (Utf8.decode s pos).2) hit.out)
      have HBW2 := Lib.hid (Lib.below_iterAt hbw.out (k := w.heap.size + 1) (by omega) s (pos + (Utf8.decode s pos).2))
      have HOWN2 : Hid (OwnT (wr.iterAt (w.heap.size + 1) s (pos + (Utf8.decode s pos).2)) (w.heap.size + 2) u5 toks) := ownsRow_iterAt hown.out (k := w.heap.size + 1) (by omega) s (pos + (Utf8.decode s pos).2)
      have HBOX2 : Hid (Boxed2 (wr.iterAt (w.heap.size + 1) s (pos + (Utf8.decode s pos).2)) w.heap.size (.int .i64 0) (.int .i64 0)) := (Lib.iterAt_other wr (w.heap.size + 1) w.heap.size s _ (by omega)).trans hbox.out
      have hsz2 : w.heap.size + 2 ≤ (wr.iterAt (w.heap.size + 1) s (pos + (Utf8.decode s pos).2)).heap.size := by rw [Lib.iterAt_size]; exact hsz
      generalize hW1 : wr.iterAt (w.heap.size + 1) s (pos + (Utf8.decode s pos).2) = W1 at *
      clear hW1 hit hown hbw hbox hsz
      have HRB := Lib.hid (rune_byte s pos hp)
      have HRR := Lib.hid (read_rune s pos hp _ rfl)
      have HDW := Lib.hid (decode_wide s pos hp)
      have HW1 : Hid (s[pos].toNat < 128 → (Utf8.decode s pos).2 = 1) := fun h => congrArg Prod.snd (decode_ascii s pos hp h)
      have HSK : Hid (pos < next → Scans s (pos + (Utf8.decode s pos).2) line start next toks) := fun h => hS.out.skip h
      have hrle := decode_le s pos
      generalize Utf8.decode s pos = d at *
      obtain ⟨r, wd⟩ := d
      dsimp only at hnx HIT2 HBW2 HOWN2 HBOX2 HRB HRR HDW HW1 HSK hrle
      obtain ⟨hd1, hd2⟩ : 1 ≤ wd ∧ pos + wd ≤ s.size := ⟨HDW.out.1, HDW.out.2.1⟩
      clear HDW
      by_cases hlt : pos < next
      · go_wp2_with fail
        go_roundw
        case rel => exact ⟨pos + wd, line, start, next, toks, HSK.out hlt, HIT2, HOWN2, HBW2, HBOX2, hsz2, rfl, rfl, rfl⟩
        case measure => rw [hpos0.out, iterPos_of HIT2.out]; omega
      have hge : next ≤ pos := by omega
      by_cases h10 : (r : Int) = 10
      · obtain ⟨hc, hw1⟩ := HRB.out.1 h10
        have HN := Lib.hid (hS.out.feed hge hp hc)
        have h10' : ((r : Int) == 10) = true := by simp [h10]
        have HBL : Hid (blankZ (r : Int) = true) := by show _ = _; rw [h10]; rfl
        subst hw1
        clear h10 hc
        go_wp2_with fail
        refine (lblank_any _ _).mono ?_
        rintro e w' ⟨rfl, rfl⟩
        rw [HBL.out]
        go_wp2_with fail
        go_roundw
        case rel => exact ⟨pos + 1, line + 1, pos + 1, next, toks, HN, HIT2, HOWN2, HBW2, HBOX2, hsz2, by go_num, by go_num, rfl⟩
        case measure => rw [hpos0.out, iterPos_of HIT2.out]; omega
      have h10' : ((r : Int) == 10) = false := by simp [h10]
      have HC10 := Lib.hid (HRB.out.2.1 h10)
      clear h10
      cases hbl : blankZ (r : Int) with
      | true =>
        obtain ⟨hc, hw1⟩ := HRB.out.2.2.1 hbl
        have HN := Lib.hid (hS.out.blank hge hp HC10.out hc)
        have HBL := Lib.hid hbl
        subst hw1
        clear hbl hc
        go_wp2_with fail
        refine (lblank_any _ _).mono ?_
        rintro e w' ⟨rfl, rfl⟩
        rw [HBL.out]
        go_wp2_with fail
        go_roundw
        case rel => exact ⟨pos + 1, line, start, next, toks, HN, HIT2, HOWN2, HBW2, HBOX2, hsz2, rfl, rfl, rfl⟩
        case measure => rw [hpos0.out, iterPos_of HIT2.out]; omega
      | false =>
      have HBL := Lib.hid hbl
      have HCB := Lib.hid (HRB.out.2.2.2.1 hbl)
      clear hbl
      have HSD := Lib.hid (extract_from s pos)
      have hes : (s.extract pos s.size).size = s.size - pos := extract_size s pos
      by_cases h37 : (r : Int) = 37
      · obtain ⟨hc, hw1⟩ := HRB.out.2.2.2.2.1 h37
        obtain ⟨hn1, hn2⟩ := hS.out.comment hge hp hc
        have HN := Lib.hid hn1
        have h37' : ((r : Int) == 37) = true := by simp [h37]
        subst hw1
        clear h37 hc hn1
        have HES := Lib.hid hes; clear hes
        go_wp2_with fail
        refine (lblank_any _ _).mono ?_
        rintro e w' ⟨rfl, rfl⟩
        rw [HBL.out]
        go_wp2_with fail
        refine (span_any set_feed _ _ (by rw [HES.out]; unfold maxLen; omega)).mono ?_
        rw [HSD.out]
        rintro e w2 ⟨rfl, b2⟩
        generalize spanL notFeedZ (s.data.toList.drop pos) = n at *
        have HIT3 : Hid (w2.heap[w.heap.size + 1]? = some (.stringIter s (pos + 1))) := (b2.block _ (by omega)).trans HIT2.out
        have HOWN3 := Lib.hid (HOWN2.out.stands b2)
        have HBW3 := Lib.hid (Below.step HBW2.out b2)
        have HBOX3 := Lib.hid (HBOX2.out.on b2)
        have hsz3 : w.heap.size + 2 ≤ w2.heap.size := by have := b2.size; omega
        clear b2
        go_wp2_with fail
        go_roundw
        case rel => exact ⟨pos + 1, line, start, pos + n, toks, HN, HIT3, HOWN3, HBW3, HBOX3, hsz3, rfl, rfl, by go_num⟩
        case measure => rw [hpos0.out, iterPos_of HIT3.out]; omega
      have h37' : ((r : Int) == 37) = false := by simp [h37]
      have HC37 := Lib.hid (HRB.out.2.2.2.2.2 h37)
      clear h37
      have HES := Lib.hid hes; clear hes
      have hlc : (pos : Int) - (start : Int) + 1 = ((pos - start + 1 : Nat) : Int) := by omega
      have HLC := Lib.hid hlc; clear hlc
      go_wp2_with fail
      refine (lblank_any _ _).mono ?_
      rintro e w' ⟨rfl, rfl⟩
      rw [HBL.out]
      go_wp2_with fail
      have bP := stands_alloc W1 (.cells #[.int .i64 line, .int .i64 ((pos : Int) - (start : Int) + 1)] 46)
      have xP := boxed2_new W1 (.int .i64 line) (.int .i64 ((pos : Int) - (start : Int) + 1))
      generalize W1.alloc (.cells #[.int .i64 line, .int .i64 ((pos : Int) - (start : Int) + 1)] 46) = W2 at *
      have hsP := bP.size
      have B2 := Below.step HBW2.out bP
      refine (token_any _ _ _ (by rw [HES.out]; omega) (by rw [HES.out]; omega) (Nat.lt_of_lt_of_le hg B2.size) (HOK.out.below hg B2)).mono ?_
      rw [HSD.out, HRR.out]
      rintro e w3 ⟨rfl, b3⟩
      have bPP := Below.step bP b3
      have HIT3 : Hid (w3.heap[w.heap.size + 1]? = some (.stringIter s (pos + wd))) := (bPP.block _ (by omega)).trans HIT2.out
      have HOWN3 := Lib.hid (HOWN2.out.stands bPP)
      have HBW3 := Lib.hid (Below.step HBW2.out bPP)
      have HBOX3 := Lib.hid (HBOX2.out.on bPP)
      have hsz3 : w.heap.size + 2 ≤ w3.heap.size := by have := bPP.size; omega
      have HXP := Lib.hid (xP.on b3)
      have hPge : w.heap.size + 2 ≤ W1.heap.size := hsz2
      clear b3 bP bPP xP B2 hsP HOWN2 HIT2 HBW2 HBOX2 hsz2
      generalize W1.heap.size = bp at *
      have HTK := Lib.hid (fun (t : Read) (h : readL (s[pos].toNat : Int) (s.data.toList.drop pos) = some t) => And.intro (token_bounds s pos hp h) (hS.out.token hge hp HC10.out HCB.out HC37.out h (token_bounds s pos hp h).1.1 (token_bounds s pos hp h).1.2))
      have HWR := Lib.hid (fun (h : readL (s[pos].toNat : Int) (s.data.toList.drop pos) = none) => hS.out.wrong hge hp HC10.out HCB.out HC37.out h)
      clear HRB HRR HSK HC10 HCB HC37 hrle
      generalize readL (s[pos].toNat : Int) (s.data.toList.drop pos) = rd at *
      cases rd with
      | none =>
        rw [show readV none = .tuple #[.agg #[.int .i64 0, .string ⟨#[]⟩, .int .i64 0, .int .i64 0, .int .i64 0], .int .i64 0] from rfl]
        have HW : Hid (scanS 0 s.data.toList 1 1 = .bad line (pos - start + 1)) := HWR.out rfl
        clear HTK HWR
        have hb4 := stands_alloc w3 (.cells #[.int .i64 0, .string ⟨#[]⟩, .int .i64 0, .int .i64 0, .int .i64 0] 71)
        have XP4 := HXP.out.on hb4
        have XR4 := HBOX3.out.on hb4
        have HB4 := Lib.hid (Below.step HBW3.out hb4)
        obtain ⟨p0, p1⟩ := XP4.cells
        obtain ⟨r0, r1⟩ := XR4.cells
        have z0 := frozen_of_row _ _ 0 _ _ XR4
        have z1 := frozen_of_row _ _ 1 _ _ XR4
        clear XP4 XR4 hb4
        go_wp2_with fail
        generalize w3.alloc (.cells #[.int .i64 0, .string ⟨#[]⟩, .int .i64 0, .int .i64 0, .int .i64 0] 71) = w4 at *
        go_region
        all_goals
          go_wp2_with fail
          refine bodyPost_ret (v := .tuple #[.slice none 0 0, .int .i64 30, .agg #[.int .i64 line, .int .i64 ((pos : Int) - (start : Int) + 1)]]) (by simp [results, Tryd.results25, go_sem, r0, r1]) rfl ?_
          rw [HE.out, HW.out]
          exact ⟨by rw [HLC.out], Below.drew (stored2 HB4.out _ (Nat.le_refl _) _ _)⟩
      | some t =>
        rw [show readV (some t) = .tuple #[.agg #[.int .i64 t.kind, .string ⟨t.text.toArray⟩, .int .i64 t.num, .int .i64 0, .int .i64 0], .int .i64 t.len] from rfl]
        obtain ⟨⟨⟨hl1, hl2⟩, hlow⟩, hN⟩ := HTK.out t rfl
        have HN := Lib.hid hN
        have hw1 := HW1.out hlow
        subst hw1
        clear hlow
        clear HTK HWR hN
        have hb4 := stands_alloc w3 (.cells #[.int .i64 t.kind, .string ⟨t.text.toArray⟩, .int .i64 t.num, .int .i64 line, .int .i64 ((pos : Int) - (start : Int) + 1)] 71)
        have hs4 := World.size_alloc w3 (.cells #[.int .i64 t.kind, .string ⟨t.text.toArray⟩, .int .i64 t.num, .int .i64 line, .int .i64 ((pos : Int) - (start : Int) + 1)] 71)
        have XP4 := HXP.out.on (stands_alloc w3 (.cells #[.int .i64 t.kind, .string ⟨t.text.toArray⟩, .int .i64 t.num, .int .i64 0, .int .i64 0] 71))
        obtain ⟨p0, p1⟩ := XP4.cells
        obtain ⟨va, vn, vc, w6, hrun, ho6, hb6⟩ := tok_append (HOWN3.out.stands hb4) (by omega) (by omega) (Tok.of t line (pos - start + 1)) 43
        have hrun' : (Builtin.append_ #[43, 43] 43 #[u5, .slice (some ⟨w3.heap.size + 1, 0, none⟩) 1 1]).run Tryd.prog ((w3.alloc (.cells #[.int .i64 t.kind, .string ⟨t.text.toArray⟩, .int .i64 t.num, .int .i64 line, .int .i64 ((pos : Int) - (start : Int) + 1)] 71)).alloc (.cells #[.int .i64 t.kind, .string ⟨t.text.toArray⟩, .int .i64 t.num, .int .i64 line, .int .i64 ((pos : Int) - (start : Int) + 1)] 71)) = .ok (.slice va vn vc) w6 := by
          rw [← hs4, HLC.out]
          rw [HLC.out] at hrun
          exact hrun
        have HRUN := Lib.hid hrun'
        have HOWN6 := Lib.hid ho6
        have HIT6 : Hid (w6.heap[w.heap.size + 1]? = some (.stringIter s (pos + 1))) := (hb6.block _ (by omega)).trans ((hb4.block _ (by omega)).trans HIT3.out)
        have HBW6 := Lib.hid ((HBW3.out.trans (hb4.mono (by omega))).trans (hb6.mono (by omega)))
        have HBOX6 : Hid (Boxed2 w6 w.heap.size (.int .i64 0) (.int .i64 0)) := (hb6.block _ (by omega)).trans (HBOX3.out.on hb4)
        have hsz6 : w.heap.size + 2 ≤ w6.heap.size := by have := hb6.size; omega
        have hlen0 : ((t.len : Int) == 0) = false := by simp; omega
        clear hrun hrun' ho6 hb6 hb4 hs4 XP4
        go_wp2_with (at_builtin; refine Lib.wpList_append_run _ rfl _ _ _ _ rfl _ _ rfl rfl _ _ HRUN.out ?_)
        refine ⟨⟨pos + 1, line, start, pos + t.len, toks ++ [Tok.of t line (pos - start + 1)], HN, HIT6, HOWN6, HBW6, HBOX6, hsz6, rfl, rfl, by go_num⟩, ?_⟩
        rw [hpos0.out, iterPos_of HIT6.out]; omega
    · have hnx : ∀ ty, (Instr.next (.pointer (some ⟨w.heap.size + 1, 0, none⟩)) true ty).run Tryd.prog wr = _ := fun ty => Lib.run_next_end_at wr (w.heap.size + 1) s pos ty hit.out hp
      have hpe : pos = s.size := by omega
      have HF : Hid (scanB s = .ok (toks ++ [⟨6, [], 0, line, s.size - start + 1⟩])) := by
        show _ = _
        rw [HE.out, hS.out.left, hpe, List.drop_of_length_le (by rw [list_len]; exact Nat.le_refl _), scanS_nil]; rfl
      have HLC : Hid ((s.size : Int) - (start : Int) + 1 = ((s.size - start + 1 : Nat) : Int)) := by show _ = _; omega
      have HPE := Lib.hid hpe
      have hst2 : start ≤ s.size := by omega
      clear hpe
      have hb4 := stands_alloc wr (.cells #[.int .i64 6, .string ⟨#[]⟩, .int .i64 0, .int .i64 line, .int .i64 ((s.size : Int) - (start : Int) + 1)] 71)
      have hs4 := World.size_alloc wr (.cells #[.int .i64 6, .string ⟨#[]⟩, .int .i64 0, .int .i64 line, .int .i64 ((s.size : Int) - (start : Int) + 1)] 71)
      obtain ⟨va, vn, vc, w6, hrun, ho6, hb6⟩ := tok_append (hown.out.stands hb4) (by omega) (by omega) ⟨6, [], 0, line, s.size - start + 1⟩ 43
      have hrun' : (Builtin.append_ #[43, 43] 43 #[u5, .slice (some ⟨wr.heap.size + 1, 0, none⟩) 1 1]).run Tryd.prog ((wr.alloc (.cells #[.int .i64 6, .string ⟨#[]⟩, .int .i64 0, .int .i64 line, .int .i64 ((s.size : Int) - (start : Int) + 1)] 71)).alloc (.cells #[.int .i64 6, .string ⟨#[]⟩, .int .i64 0, .int .i64 line, .int .i64 ((s.size : Int) - (start : Int) + 1)] 71)) = .ok (.slice va vn vc) w6 := by
        rw [← hs4, HLC.out]
        rw [HLC.out] at hrun
        exact hrun
      have HRUN := Lib.hid hrun'
      have HOWN6 := Lib.hid ho6
      have HBW6 := Lib.hid ((hbw.out.trans (hb4.mono (by omega))).trans (hb6.mono (by omega)))
      have XR6 : Boxed2 w6 w.heap.size (.int .i64 0) (.int .i64 0) := (hb6.block _ (by omega)).trans (hbox.out.on hb4)
      obtain ⟨r0, r1⟩ := XR6.cells
      have z0 := frozen_of_row _ _ 0 _ _ XR6
      have z1 := frozen_of_row _ _ 1 _ _ XR6
      clear hrun hrun' ho6 hb6 hb4 hs4 XR6
      go_wp2_with (at_builtin; refine Lib.wpList_append_run _ rfl _ _ _ _ rfl _ _ rfl rfl _ _ HRUN.out ?_)
      refine bodyPost_ret (v := .tuple #[.slice va vn vc, .int .i64 0, .agg #[.int .i64 0, .int .i64 0]]) (by simp [results, Tryd.results25, go_sem, r0, r1]) rfl ?_
      rw [HF.out]
      exact ⟨_, rfl, ((HOWN6.out.far (p := ⟨w.heap.size, 0, none⟩) (by simp) _).far (p := ⟨w.heap.size, 1, none⟩) (by simp) _).down (by omega), stored2 HBW6.out _ (Nat.le_refl _) _ _⟩

theorem scan_any (s : ByteArray) (w : World) (hs : s.size ≤ maxLen) (hg : 0 < w.heap.size) (hok : SignsOk w) :
    Calls Tryd.prog 25 #[.string s] w (ScanPost (scanB s) w) := by
  by_cases h : 20000 < s.size
  · exact scan_long s w h hs
  · exact scan_short s w (by omega) hg hok

end Go.Proofs.YtgpgjaenbhbbgaaDoor
