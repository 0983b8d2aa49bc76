/-
  lexer.span: how far a set of runes goes, by bytes.
-/
import Derived.Test.YtgpgjaenbhbbgaaDoorLexSmall
namespace Go.Proofs.YtgpgjaenbhbbgaaDoor
open Go.RowKit

/-- What a set of runes is known by: its function tells it, and leaves memory; and it has all runes from 128 on, or none. -/
structure SetIs (F : Nat) (g : Int → Bool) : Prop where
  enters : ∀ args w, Sem.run Tryd.prog (callFunc F args) w = .ok (.enter F args) w
  tells : ∀ r w, Calls Tryd.prog F #[.int .i32 r] w fun e w' => e = .returned (.bool (g r)) ∧ w = w'
  high : ∀ r r', 128 ≤ r → 128 ≤ r' → g r = g r'

theorem smallZ_high (r : Int) (h : 128 ≤ r) : smallZ r = false := by simp only [smallZ, decide_eq_false_iff_not]; omega
theorem greatZ_high (r : Int) (h : 128 ≤ r) : greatZ r = false := by simp only [greatZ, decide_eq_false_iff_not]; omega
theorem digitZ_high (r : Int) (h : 128 ≤ r) : digitZ r = false := by simp only [digitZ, decide_eq_false_iff_not]; omega
theorem wordZ_high (r : Int) (h : 128 ≤ r) : wordZ r = false := by
  have h95 : (r == 95) = false := by simp; omega
  rw [wordZ, smallZ_high r h, greatZ_high r h, digitZ_high r h, h95]; rfl
theorem set_word : SetIs 99 wordZ := ⟨fun args w => by kernel_rfl, lword_any, fun r r' h h' => by rw [wordZ_high r h, wordZ_high r' h']⟩
theorem set_digit : SetIs 80 digitZ := ⟨fun args w => by kernel_rfl, ldigit_any, fun r r' h h' => by rw [digitZ_high r h, digitZ_high r' h']⟩
theorem set_feed : SetIs 53 notFeedZ := ⟨fun args w => by kernel_rfl, lfeed_any, fun r r' h h' => by
  have h1 : (r != 10) = true := by simp; omega
  have h2 : (r' != 10) = true := by simp; omega
  rw [notFeedZ, notFeedZ, h1, h2]⟩
theorem set_quote : SetIs 100 notQuoteZ := ⟨fun args w => by kernel_rfl, lquote_any, fun r r' h h' => by
  have h1 : (r != 34) = true := by simp; omega
  have h2 : (r' != 34) = true := by simp; omega
  rw [notQuoteZ, notQuoteZ, h1, h2]⟩

/-- The rune at a place is in the set just if all its bytes are. -/
theorem set_rune {F : Nat} {g : Int → Bool} (h : SetIs F g) (s : ByteArray) (pos : Nat) (hp : pos < s.size) :
    (g ((Utf8.decode s pos).1 : Int) = true → ∀ k (hk : k < s.size), pos ≤ k → k < pos + (Utf8.decode s pos).2 → g (s[k].toNat : Int) = true) ∧ (g ((Utf8.decode s pos).1 : Int) = false → g (s[pos].toNat : Int) = false) := by
  obtain ⟨h1, h2, h3, h4⟩ := decode_wide s pos hp
  rcases rune_at s pos hp with ⟨c, hc, he, hcc⟩ | ⟨g1, g2, g3⟩
  · rw [he, hcc]
    refine ⟨fun hg k hk a b => ?_, fun hg => hg⟩
    simp only [] at b
    obtain rfl : k = pos := by omega
    rw [hcc]; exact hg
  · refine ⟨fun hg k hk a b => ?_, fun hg => ?_⟩
    · have hk' : 128 ≤ s[k].toNat := by
        by_cases e : k = pos
        · subst e; exact g3
        · exact h3 k hk (by omega) b
      rw [h.high _ ((Utf8.decode s pos).1 : Int) (by omega) (by omega)]; exact hg
    · rw [h.high _ ((Utf8.decode s pos).1 : Int) (by omega) (by omega)]; exact hg

theorem list_at (s : ByteArray) (k : Nat) (_h : k < s.data.toList.length) (h' : k < s.size) : s.data.toList[k] = s[k] := by simp; rfl
theorem list_len (s : ByteArray) : s.data.toList.length = s.size := by simp
theorem span_at (g : Int → Bool) (s : ByteArray) (pos : Nat) (hp : pos ≤ s.size) (ha : ∀ k (h : k < s.size), k < pos → g (s[k].toNat : Int) = true) (he : ∀ h : pos < s.size, g (s[pos].toNat : Int) = false) :
    spanL g s.data.toList = pos := by
  rw [spanL_all g pos _ (by rw [list_len]; exact hp) (fun k hk hkp => by rw [onB, list_at s k hk (by rw [list_len] at hk; exact hk)]; exact ha k _ hkp)]
  by_cases h : pos < s.size
  · have hl : pos < s.data.toList.length := by rw [list_len]; exact h
    have h0 : onB g s.data.toList[pos] = false := by rw [onB, list_at s pos hl h]; exact he h
    rw [List.drop_eq_getElem_cons hl, spanL_cons, if_neg (by rw [h0]; simp)]; omega
  · rw [List.drop_of_length_le (by rw [list_len]; omega)]; rfl

set_option maxRecDepth 100000 in
set_option maxHeartbeats 1000000 in
theorem span_any {F : Nat} {g : Int → Bool} (h : SetIs F g) (s : ByteArray) (w : World) (_hs : s.size ≤ maxLen) :
    Calls Tryd.prog 52 #[.string s, .func (.func F) #[] #[]] w fun e w' => e = .returned (.int .i64 (spanL g s.data.toList)) ∧ Below w.heap.size w w' := by
  have HE := Lib.hid h.enters
  go_enter Tryd.func52, Tryd.ntmps52
  go_wp2_with fail
  go_loopw [5] (fun _ w' => ∃ (pos : Nat), w' = w.iter s pos ∧ pos ≤ s.size ∧ Hid (∀ k (h : k < s.size), k < pos → g (s[k].toNat : Int) = true)) (fun _ w' => s.size - w'.iterPos w.heap.size)
  case atStart => exact ⟨0, rfl, Nat.zero_le _, fun i _ hi => by omega⟩
  case round =>
    obtain ⟨pos, rfl, hpos, hok⟩ := hrel
    have hbel : Below w.heap.size w (w.iter s (pos + (Utf8.decode s pos).2)) := (Below.refl _ w).alloc (Nat.le_refl _) _
    have hbel0 : Below w.heap.size w (w.iter s pos) := (Below.refl _ w).alloc (Nat.le_refl _) _
    by_cases hp : pos < s.size
    · have hnx : ∀ ty, (Instr.next (.pointer (some ⟨w.heap.size, 0, none⟩)) true ty).run Tryd.prog (w.iter s pos) = _ := fun ty => run_next_any w s pos ty hp
      have HR := Lib.hid (set_rune h s pos hp)
      have HW := Lib.hid (decode_wide s pos hp)
      generalize hd : Utf8.decode s pos = d at *
      obtain ⟨r, wd⟩ := d
      clear hd
      dsimp only at hnx HR HW hbel
      have hen : ∀ args w, Sem.run Tryd.prog (callFunc F args) w = .ok (.enter F args) w := HE.out
      cases h1 : g (r : Int) with
      | true =>
        have H1 := Lib.hid h1; clear h1
        go_wp2_with fail
        refine (h.tells _ _).mono ?_
        rintro e w' ⟨rfl, rfl⟩
        rw [H1.out]
        go_wp2_with fail
        go_roundw
        case rel =>
          obtain ⟨a1, a2, a3, a4⟩ := HW.out
          refine ⟨pos + wd, rfl, a2, fun k hk hk2 => ?_⟩
          by_cases e : k < pos
          · exact hok.out k hk e
          · exact HR.out.1 H1.out k hk (by omega) hk2
        case measure =>
          obtain ⟨a1, a2, a3, a4⟩ := HW.out
          simp
          omega
      | false =>
        have H1 := Lib.hid h1; clear h1
        have HF := Lib.hid (span_at g s pos (by omega) hok.out (fun _ => HR.out.2 H1.out))
        go_wp2_with fail
        refine (h.tells _ _).mono ?_
        rintro e w' ⟨rfl, rfl⟩
        rw [H1.out]
        go_wp2_with fail
        go_ret
        exact ⟨by rw [HF.out]; rfl, hbel⟩
    · have hnx : ∀ ty, (Instr.next (.pointer (some ⟨w.heap.size, 0, none⟩)) true ty).run Tryd.prog (w.iter s pos) = _ := fun ty => run_next_end w s pos ty hp
      have HF := Lib.hid (span_at g s pos hpos hok.out (fun h => absurd h hp))
      have HPE : Hid (pos = s.size) := by show _ = _; omega
      go_wp2_with fail
      go_ret
      exact ⟨by rw [HF.out, HPE.out]; rfl, hbel0⟩

end Go.Proofs.YtgpgjaenbhbbgaaDoor
