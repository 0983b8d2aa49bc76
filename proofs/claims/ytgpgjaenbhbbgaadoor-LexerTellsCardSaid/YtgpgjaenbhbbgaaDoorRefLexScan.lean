/-
  The document's own Scan, as a contract: the same answer as the program's.
-/
import Derived.Test.YtgpgjaenbhbbgaaDoorRefLexTok4
namespace Go.Proofs.YtgpgjaenbhbbgaaDoor
open Go.RowKit

theorem stored2' {W w : World} {k : Nat} (hw : Below W.heap.size W w) (hk : W.heap.size ≤ k) (c3 c4 : Value) : Below W.heap.size W ((w.setCell ⟨k, 3, none⟩ c3).setCell ⟨k, 4, none⟩ c4) :=
  (hw.setCell (p := ⟨k, 3, none⟩) hk c3).setCell (p := ⟨k, 4, none⟩) hk c4

set_option maxRecDepth 100000 in
set_option maxHeartbeats 4000000 in
theorem rscan_long (s : ByteArray) (w : World) (h : 20000 < s.size) (hs : s.size ≤ maxLen) :
    Calls Tryd.prog 26 #[.string s] w (ScanPost (scanB s) w) := by
  have HE : Hid (scanB s = .bad 1 1) := by show _ = _; rw [scanB, if_pos h]
  unfold maxLen at hs
  go_enter Tryd.func26, Tryd.ntmps26
  have x1 := boxed2_new w (.int .i64 0) (.int .i64 0)
  obtain ⟨r0, r1⟩ := x1.cells
  have z0 := frozen_of_row _ _ 0 _ _ x1
  have z1 := frozen_of_row _ _ 1 _ _ x1
  go_wp2_with fail
  refine bodyPost_ret (v := .tuple #[.slice none 0 0, .int .i64 30, .agg #[.int .i64 1, .int .i64 1]]) (by simp [results, Tryd.results26, go_sem]) rfl ?_
  rw [HE.out]
  exact ⟨rfl, stands_alloc w _⟩

set_option maxRecDepth 100000 in
set_option maxHeartbeats 16000000 in
theorem rscan_short (s : ByteArray) (w : World) (hs : s.size ≤ 20000) :
    Calls Tryd.prog 26 #[.string s] w (ScanPost (scanB s) w) := by
  have HE : Hid (scanB s = scanS 0 s.data.toList 1 1) := by show _ = _; rw [scanB, if_neg (by omega)]
  have hlong : decide (20000 < (s.size : Int)) = false := by rw [decide_eq_false_iff_not]; omega
  go_enter Tryd.func26, Tryd.ntmps26
  go_wp2_with fail
  have bA := stands_alloc w (.cells #[.int .i64 0, .int .i64 0] 46)
  have xA := boxed2_new w (.int .i64 0) (.int .i64 0)
  have sA := World.size_alloc w (.cells #[.int .i64 0, .int .i64 0] 46)
  generalize w.alloc (.cells #[.int .i64 0, .int .i64 0] 46) = wA at *
  have XA := Lib.hid xA; have BA := Lib.hid bA; have SA : w.heap.size + 1 ≤ wA.heap.size := by omega
  clear bA xA sA
  go_loopw [5, 6] (fun o i wr => ∃ (j : Nat) (toks : List Tok), Hid (Reads s j toks) ∧ i = .int .i64 j ∧ Hid (OwnT wr (w.heap.size + 1) o toks) ∧ Hid (Below w.heap.size w wr) ∧ Hid (Boxed2 wr w.heap.size (.int .i64 0) (.int .i64 0)) ∧ w.heap.size + 1 ≤ wr.heap.size) (fun _ i _ => s.size + 1 - (intOf i).toNat)
  case atStart => exact ⟨0, [], Reads.start s, rfl, World.ownsRow_nil _ _ _ _, BA.out, XA.out, SA⟩
  case round =>
    obtain ⟨j, toks, hR, rfl, hown, hbw, hbox, hsz⟩ := hrel
    have hjs := hR.out.le
    clear XA BA SA
    go_wp2_with fail
    refine (rblank_any s j toks _ hs hR.out).mono ?_
    rintro e w' ⟨n, rfl, hr2, hnb, rfl⟩
    obtain ⟨m, hm⟩ : ∃ m, m = j + n := ⟨_, rfl⟩
    have hwr : IntKind.i64.wrap ((j : Int) + (n : Int)) = ((m : Nat) : Int) := by rw [IntKind.wrap_i64, hm]; have := hr2.le; omega
    have hms : m ≤ s.size := by rw [hm]; exact hr2.le
    have hfew := hr2.few
    have HR2 : Hid (Reads s m toks) := by rw [hm]; exact hr2
    have HNB : Hid (∀ h : m < s.size, blankZ (s[m].toNat : Int) = false ∧ s[m].toNat ≠ 37) := fun h => by
      have h' : j + n < s.size := by omega
      have := hnb h'
      simp only [← hm] at this
      exact this
    have hjm : j ≤ m := by omega
    have hfm : toks.length ≤ m := by omega
    have HTL := Lib.hid hfm
    have hbd := placeS_bd s m
    clear hr2 hnb hfew hR
    clear hm
    by_cases hend : m = s.size
    · have hq : ((m : Int) == (s.size : Int)) = true := by rw [beq_iff_eq]; omega
      have HF : Hid (scanB s = .ok (toks ++ [⟨6, [], 0, (placeS s m).1, (placeS s m).2⟩])) := by show _ = _; rw [HE.out, HR2.out.done hend]
      clear hend
      go_wp2_with fail
      refine (rplace_any s m _ hs hms).mono ?_
      rintro e w4 ⟨rfl, b4⟩
      generalize placeS s m = p at *
      obtain ⟨pl, pc⟩ := p
      dsimp only at *
      have hs4 := b4.size
      obtain ⟨va, vn, vc, w6, hrun, ho6, hb6⟩ := tok_append (hown.out.stands b4) (by omega) (by omega) ⟨6, [], 0, pl, pc⟩ 43
      have HRUN := Lib.hid hrun
      have HOWN6 := Lib.hid ho6
      have HBW6 := Lib.hid ((hbw.out.trans (b4.mono (by omega))).trans (hb6.mono (by omega)))
      have XR6 : Boxed2 w6 w.heap.size (.int .i64 0) (.int .i64 0) := (hb6.block _ (by omega)).trans (hbox.out.on b4)
      obtain ⟨r0, r1⟩ := XR6.cells
      have z0 := frozen_of_row _ _ 0 _ _ XR6
      have z1 := frozen_of_row _ _ 1 _ _ XR6
      clear hrun ho6 hb6 XR6 b4 hs4
      go_wp2_with (at_builtin; refine Lib.wpList_append_run _ rfl _ _ _ _ rfl _ _ rfl rfl _ _ HRUN.out ?_)
      refine bodyPost_ret (v := .tuple #[.slice va vn vc, .int .i64 0, .agg #[.int .i64 0, .int .i64 0]]) (by simp [results, Tryd.results26, go_sem, r0, r1]) rfl ?_
      rw [HF.out]
      exact ⟨_, rfl, ((HOWN6.out.far (p := ⟨w.heap.size, 0, none⟩) (by simp) _).far (p := ⟨w.heap.size, 1, none⟩) (by simp) _).down (by omega), stored2 HBW6.out _ (Nat.le_refl _) _ _⟩
    · have hq : ((m : Int) == (s.size : Int)) = false := by rw [beq_eq_false_iff_ne]; omega
      have hlt : m < s.size := by omega
      obtain ⟨hb1, hb2⟩ := HNB.out hlt
      have HTK := Lib.hid (fun (t : Read) (h : readL (s[m].toNat : Int) (s.data.toList.drop m) = some t) => HR2.out.token hlt hb1 hb2 h)
      have HWR := Lib.hid (fun (h : readL (s[m].toNat : Int) (s.data.toList.drop m) = none) => HR2.out.wrong hlt hb1 hb2 h)
      clear hend hb1 hb2
      go_wp2_with fail
      refine (rtoken_any s m _ hs hlt).mono ?_
      rintro e w3 ⟨rfl, b3⟩
      generalize readL (s[m].toNat : Int) (s.data.toList.drop m) = rd at *
      have hs3 := b3.size
      have HOWN3 := Lib.hid (hown.out.stands b3)
      have HBW3 := Lib.hid (Below.step hbw.out b3)
      have HBOX3 := Lib.hid (hbox.out.on b3)
      clear b3 hown hbw hbox
      cases rd with
      | none =>
        rw [show readV none = .tuple #[.agg #[.int .i64 0, .string ⟨#[]⟩, .int .i64 0, .int .i64 0, .int .i64 0], .int .i64 0] from rfl]
        have HW : Hid (scanB s = .bad (placeS s m).1 (placeS s m).2) := by show _ = _; rw [HE.out, HWR.out rfl]
        clear HTK HWR
        have b4 := stands_alloc w3 (.cells #[.int .i64 0, .string ⟨#[]⟩, .int .i64 0, .int .i64 0, .int .i64 0] 71)
        go_wp2_with fail
        generalize w3.alloc (.cells #[.int .i64 0, .string ⟨#[]⟩, .int .i64 0, .int .i64 0, .int .i64 0] 71) = w4 at *
        refine (rplace_any s m _ hs hms).mono ?_
        rintro e w5 ⟨rfl, b5⟩
        generalize placeS s m = p at *
        obtain ⟨pl, pc⟩ := p
        dsimp only at *
        have b35 := Below.step b4 b5
        have XR5 := HBOX3.out.on b35
        have HBW5 := Lib.hid (Below.step HBW3.out b35)
        obtain ⟨r0, r1⟩ := XR5.cells
        have z0 := frozen_of_row _ _ 0 _ _ XR5
        have z1 := frozen_of_row _ _ 1 _ _ XR5
        clear b4 b5 b35 XR5
        go_wp2_with fail
        refine bodyPost_ret (v := .tuple #[.slice none 0 0, .int .i64 30, .agg #[.int .i64 pl, .int .i64 pc]]) (by simp [results, Tryd.results26, go_sem, r0, r1]) rfl ?_
        rw [HW.out]
        exact ⟨rfl, stored2 HBW5.out _ (Nat.le_refl _) _ _⟩
      | some t =>
        rw [show readV (some t) = .tuple #[.agg #[.int .i64 t.kind, .string ⟨t.text.toArray⟩, .int .i64 t.num, .int .i64 0, .int .i64 0], .int .i64 t.len] from rfl]
        obtain ⟨hl1, hl2, hN⟩ := HTK.out t rfl
        have HN := Lib.hid hN
        clear HTK HWR hN
        have x4 := boxed5_new w3 (.int .i64 t.kind) (.string ⟨t.text.toArray⟩) (.int .i64 t.num) (.int .i64 0) (.int .i64 0)
        have b4 := stands_alloc w3 (.cells #[.int .i64 t.kind, .string ⟨t.text.toArray⟩, .int .i64 t.num, .int .i64 0, .int .i64 0] 71)
        have hlen0 : ((t.len : Int) == 0) = false := by rw [beq_eq_false_iff_ne]; omega
        go_wp2_with fail
        generalize w3.alloc (.cells #[.int .i64 t.kind, .string ⟨t.text.toArray⟩, .int .i64 t.num, .int .i64 0, .int .i64 0] 71) = w4 at *
        refine (rplace_any s m _ hs hms).mono ?_
        rintro e w5 ⟨rfl, b5⟩
        generalize placeS s m = p at *
        obtain ⟨pl, pc⟩ := p
        dsimp only at *
        have hlt3 : w3.heap.size < w5.heap.size := Nat.lt_of_lt_of_le x4.lt b5.size
        have x5 := x4.on b5
        have b35 := Below.step b4 b5
        have HOWN5 := Lib.hid (HOWN3.out.stands b35)
        have HLIE := Lib.hid (fun k hk => OwnT.lies HOWN3.out k hk)
        have HBW5 := Lib.hid (Below.step HBW3.out b35)
        have HBOX5 := Lib.hid (HBOX3.out.on b35)
        obtain ⟨q0, q1, q2, q3, q4⟩ := x5.cells
        have f3 := frozen_of_row _ _ 3 _ _ x5
        have f4 := frozen_of_row _ _ 4 _ _ x5
        have X5 := Lib.hid x5
        clear b4 b5 x4 x5 b35
        obtain ⟨W5, hW5⟩ : ∃ W5, W5 = (w5.setCell ⟨w3.heap.size, 3, none⟩ (.int .i64 pl)).setCell ⟨w3.heap.size, 4, none⟩ (.int .i64 pc) := ⟨_, rfl⟩
        have hszW : W5.heap.size = w5.heap.size := by rw [hW5]; simp [World.setCell]
        have hoth : ∀ k, k ≠ w3.heap.size → W5.heap[k]? = w5.heap[k]? := fun k hk => by
          rw [hW5, Below.heap_setCell _ _ _ _ (by simpa using hk), Below.heap_setCell _ _ _ _ (by simpa using hk)]
        have hoW : OwnT W5 (w.heap.size + 1) u5 toks := HOWN5.out.on (fun k h1 h2 h3 => hoth k (by have := HLIE.out k h3; omega))
        have hbW : Below w.heap.size w W5 := by rw [hW5]; exact stored2' HBW5.out (by omega) _ _
        have hxW : Boxed2 W5 w.heap.size (.int .i64 0) (.int .i64 0) := (hoth _ (by omega)).trans HBOX5.out
        obtain ⟨va, vn, vc, w6, hrun, ho6, hb6⟩ := tok_append hoW (by omega) (by omega) (Tok.of t pl pc) 43
        rw [hszW, hW5] at hrun
        have HRUN := Lib.hid hrun
        have HOWN6 := Lib.hid ho6
        have HBW6 := Lib.hid (hbW.trans (hb6.mono (by omega)))
        have HBOX6 : Hid (Boxed2 w6 w.heap.size (.int .i64 0) (.int .i64 0)) := (hb6.block _ (by omega)).trans hxW
        have hsz6 : w.heap.size + 1 ≤ w6.heap.size := by have := hb6.size; omega
        have hmw : IntKind.i64.wrap ((m : Int) + (t.len : Int)) = (m : Int) + (t.len : Int) := by rw [IntKind.wrap_i64]; omega
        clear hrun ho6 hb6 hoW hbW hxW hoth hW5 hszW
        go_wp2_with (at_builtin; refine Lib.wpList_append_run _ rfl _ _ _ _ rfl _ _ rfl rfl _ _ HRUN.out ?_)
        go_roundw
        case rel => exact ⟨m + t.len, _, HN, by go_num, HOWN6, HBW6, HBOX6, hsz6⟩
        case measure => simp [intOf]; omega

theorem rscan_any (s : ByteArray) (w : World) (hs : s.size ≤ maxLen) :
    Calls Tryd.prog 26 #[.string s] w (ScanPost (scanB s) w) := by
  by_cases h : 20000 < s.size
  · exact rscan_long s w h hs
  · exact rscan_short s w (by omega)

end Go.Proofs.YtgpgjaenbhbbgaaDoor
