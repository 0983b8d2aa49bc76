/-
  lexer's sets of runes, each as plain data.
-/
import Derived.Test.YtgpgjaenbhbbgaaDoorLexData
namespace Go.Proofs.YtgpgjaenbhbbgaaDoor
open Go.RowKit

theorem lsmall_any (r : Int) (w : World) : Calls Tryd.prog 76 #[.int .i32 r] w fun e w' => e = .returned (.bool (smallZ r)) ∧ w = w' := by
  have HF : Hid (smallZ r = (decide (97 ≤ r) && decide (r ≤ 122))) := by show _ = _; rw [smallZ, Bool.decide_and]
  cases h1 : decide (97 ≤ r) <;> cases h2 : decide (r ≤ 122) <;>
  · rw [h1, h2] at HF
    go_enter Tryd.func76, Tryd.ntmps76
    go_wp2
    go_ret
    exact ⟨ret_bool HF.out.symm, rfl⟩
theorem lgreat_any (r : Int) (w : World) : Calls Tryd.prog 78 #[.int .i32 r] w fun e w' => e = .returned (.bool (greatZ r)) ∧ w = w' := by
  have HF : Hid (greatZ r = (decide (65 ≤ r) && decide (r ≤ 90))) := by show _ = _; rw [greatZ, Bool.decide_and]
  cases h1 : decide (65 ≤ r) <;> cases h2 : decide (r ≤ 90) <;>
  · rw [h1, h2] at HF
    go_enter Tryd.func78, Tryd.ntmps78
    go_wp2
    go_ret
    exact ⟨ret_bool HF.out.symm, rfl⟩
theorem ldigit_any (r : Int) (w : World) : Calls Tryd.prog 80 #[.int .i32 r] w fun e w' => e = .returned (.bool (digitZ r)) ∧ w = w' := by
  have HF : Hid (digitZ r = (decide (48 ≤ r) && decide (r ≤ 57))) := by show _ = _; rw [digitZ, Bool.decide_and]
  cases h1 : decide (48 ≤ r) <;> cases h2 : decide (r ≤ 57) <;>
  · rw [h1, h2] at HF
    go_enter Tryd.func80, Tryd.ntmps80
    go_wp2
    go_ret
    exact ⟨ret_bool HF.out.symm, rfl⟩
theorem lword_any (r : Int) (w : World) : Calls Tryd.prog 99 #[.int .i32 r] w fun e w' => e = .returned (.bool (wordZ r)) ∧ w = w' := by
  have HF : Hid (wordZ r = (smallZ r || (greatZ r || (digitZ r || (r == 95))))) := rfl
  cases h1 : smallZ r <;> cases h2 : greatZ r <;> cases h3 : digitZ r <;> cases h4 : (r == 95) <;>
  · rw [h1, h2, h3, h4] at HF
    go_enter Tryd.func99, Tryd.ntmps99
    go_wp2_with (first | (go_at_call 76; refine (lsmall_any _ _).mono ?_; rintro e w' ⟨rfl, rfl⟩) | (go_at_call 78; refine (lgreat_any _ _).mono ?_; rintro e w' ⟨rfl, rfl⟩) | (go_at_call 80; refine (ldigit_any _ _).mono ?_; rintro e w' ⟨rfl, rfl⟩))
    go_ret
    exact ⟨ret_bool HF.out.symm, rfl⟩
theorem lfeed_any (r : Int) (w : World) : Calls Tryd.prog 53 #[.int .i32 r] w fun e w' => e = .returned (.bool (notFeedZ r)) ∧ w = w' := by
  have HF : Hid (notFeedZ r = (r != 10)) := rfl
  go_enter Tryd.func53, Tryd.ntmps53
  go_wp2
  go_ret
  exact ⟨ret_bool HF.out.symm, rfl⟩
theorem lquote_any (r : Int) (w : World) : Calls Tryd.prog 100 #[.int .i32 r] w fun e w' => e = .returned (.bool (notQuoteZ r)) ∧ w = w' := by
  have HF : Hid (notQuoteZ r = (r != 34)) := rfl
  go_enter Tryd.func100, Tryd.ntmps100
  go_wp2
  go_ret
  exact ⟨ret_bool HF.out.symm, rfl⟩
theorem lblank_any (r : Int) (w : World) : Calls Tryd.prog 51 #[.int .i32 r] w fun e w' => e = .returned (.bool (blankZ r)) ∧ w = w' := by
  have HF : Hid (blankZ r = ((r == 32) || ((r == 9) || (r == 10)))) := rfl
  cases h1 : (r == 32) <;> cases h2 : (r == 9) <;> cases h3 : (r == 10) <;>
  · rw [h1, h2, h3] at HF
    go_enter Tryd.func51, Tryd.ntmps51
    go_wp2
    go_ret
    exact ⟨ret_bool HF.out.symm, rfl⟩

end Go.Proofs.YtgpgjaenbhbbgaaDoor
