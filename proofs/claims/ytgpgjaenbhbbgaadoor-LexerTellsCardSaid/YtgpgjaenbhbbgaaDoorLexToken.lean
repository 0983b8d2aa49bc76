/-
  lexer.token, as a contract: what stands at the beginning of a text.
-/
import Derived.Test.YtgpgjaenbhbbgaaDoorLexSign
namespace Go.Proofs.YtgpgjaenbhbbgaaDoor
open Go.RowKit

set_option maxRecDepth 100000 in
set_option maxHeartbeats 4000000 in
theorem token_small (s : ByteArray) (r : Int) (w : World) (hs : s.size ≤ 20000) (_hs1 : 1 ≤ s.size) (_hg : 0 < w.heap.size) (hok : SignsOk w) (h1 : smallZ r = true) :
    Calls Tryd.prog 54 #[.string s, .int .i32 r] w (ReadPost (readL r s.data.toList) w) := by
  have HE : Hid (readL r s.data.toList = nameR s.data.toList) := by show _ = _; exact read_small h1 _
  have HOK := Lib.hid hok
  have HMX : Hid (s.size ≤ maxLen) := by show _ ≤ _; unfold maxLen; omega
  clear hok
  go_enter Tryd.func54, Tryd.ntmps54
  go_wp2_with (first | (go_at_call 76; refine (lsmall_any _ _).mono ?_; rintro e w' ⟨rfl, rfl⟩) | (go_at_call 78; refine (lgreat_any _ _).mono ?_; rintro e w' ⟨rfl, rfl⟩) | (go_at_call 80; refine (ldigit_any _ _).mono ?_; rintro e w' ⟨rfl, rfl⟩))
  have x1 := Lib.hid (boxed5_new w (.int .i64 0) (.string ⟨#[]⟩) (.int .i64 0) (.int .i64 0) (.int .i64 0))
  have b1 := Lib.hid (stands_alloc w (.cells #[.int .i64 0, .string ⟨#[]⟩, .int .i64 0, .int .i64 0, .int .i64 0] 71))
  generalize w.alloc (.cells #[.int .i64 0, .string ⟨#[]⟩, .int .i64 0, .int .i64 0, .int .i64 0] 71) = w1 at *
  refine (lname_any s _ HMX.out).mono ?_
  rintro e w2 ⟨rfl, b2⟩
  have X2 := x1.out.on b2; have B2 := Lib.hid (Below.step b1.out b2)
  obtain ⟨r0, r1, r2, r3, r4⟩ := X2.cells
  have z0 := frozen_of_row w2 _ 0 _ _ X2
  have z1 := frozen_of_row w2 _ 1 _ _ X2
  have z2 := frozen_of_row w2 _ 2 _ _ X2
  have z3 := frozen_of_row w2 _ 3 _ _ X2
  have z4 := frozen_of_row w2 _ 4 _ _ X2
  clear X2 b2
  generalize nameR s.data.toList = rd at *
  cases rd with
  | none =>
    rw [show readV none = .tuple #[.agg #[.int .i64 0, .string ⟨#[]⟩, .int .i64 0, .int .i64 0, .int .i64 0], .int .i64 0] from rfl]
    go_wp2_with fail
    refine bodyPost_ret (v := .tuple #[.agg #[.int .i64 0, .string ⟨#[]⟩, .int .i64 0, .int .i64 0, .int .i64 0], .int .i64 0]) (by simp [results, Tryd.results54, go_sem, r0, r1, r2, r3, r4]) rfl ?_
    rw [HE.out]
    exact ⟨rfl, stored5 B2.out _ (Nat.le_refl _) _ _ _ _ _⟩
  | some t =>
    rw [show readV (some t) = .tuple #[.agg #[.int .i64 t.kind, .string ⟨t.text.toArray⟩, .int .i64 t.num, .int .i64 0, .int .i64 0], .int .i64 t.len] from rfl]
    go_wp2_with fail
    refine bodyPost_ret (v := .tuple #[.agg #[.int .i64 t.kind, .string ⟨t.text.toArray⟩, .int .i64 t.num, .int .i64 0, .int .i64 0], .int .i64 t.len]) (by simp [results, Tryd.results54, go_sem, r0, r1, r2, r3, r4]) rfl ?_
    rw [HE.out]
    exact ⟨rfl, stored5 B2.out _ (Nat.le_refl _) _ _ _ _ _⟩

set_option maxRecDepth 100000 in
set_option maxHeartbeats 4000000 in
theorem token_great (s : ByteArray) (r : Int) (w : World) (hs : s.size ≤ 20000) (_hs1 : 1 ≤ s.size) (_hg : 0 < w.heap.size) (hok : SignsOk w) (h1 : smallZ r = false) (h2 : greatZ r = true) :
    Calls Tryd.prog 54 #[.string s, .int .i32 r] w (ReadPost (readL r s.data.toList) w) := by
  have HE : Hid (readL r s.data.toList = varR s.data.toList) := by show _ = _; exact read_great h2 _
  have HOK := Lib.hid hok
  have HMX : Hid (s.size ≤ maxLen) := by show _ ≤ _; unfold maxLen; omega
  clear hok
  go_enter Tryd.func54, Tryd.ntmps54
  go_wp2_with (first | (go_at_call 76; refine (lsmall_any _ _).mono ?_; rintro e w' ⟨rfl, rfl⟩) | (go_at_call 78; refine (lgreat_any _ _).mono ?_; rintro e w' ⟨rfl, rfl⟩) | (go_at_call 80; refine (ldigit_any _ _).mono ?_; rintro e w' ⟨rfl, rfl⟩))
  have x1 := Lib.hid (boxed5_new w (.int .i64 0) (.string ⟨#[]⟩) (.int .i64 0) (.int .i64 0) (.int .i64 0))
  have b1 := Lib.hid (stands_alloc w (.cells #[.int .i64 0, .string ⟨#[]⟩, .int .i64 0, .int .i64 0, .int .i64 0] 71))
  generalize w.alloc (.cells #[.int .i64 0, .string ⟨#[]⟩, .int .i64 0, .int .i64 0, .int .i64 0] 71) = w1 at *
  refine (lvar_any s _ HMX.out).mono ?_
  rintro e w2 ⟨rfl, b2⟩
  have X2 := x1.out.on b2; have B2 := Lib.hid (Below.step b1.out b2)
  obtain ⟨r0, r1, r2, r3, r4⟩ := X2.cells
  have z0 := frozen_of_row w2 _ 0 _ _ X2
  have z1 := frozen_of_row w2 _ 1 _ _ X2
  have z2 := frozen_of_row w2 _ 2 _ _ X2
  have z3 := frozen_of_row w2 _ 3 _ _ X2
  have z4 := frozen_of_row w2 _ 4 _ _ X2
  clear X2 b2
  generalize varR s.data.toList = rd at *
  cases rd with
  | none =>
    rw [show readV none = .tuple #[.agg #[.int .i64 0, .string ⟨#[]⟩, .int .i64 0, .int .i64 0, .int .i64 0], .int .i64 0] from rfl]
    go_wp2_with fail
    refine bodyPost_ret (v := .tuple #[.agg #[.int .i64 0, .string ⟨#[]⟩, .int .i64 0, .int .i64 0, .int .i64 0], .int .i64 0]) (by simp [results, Tryd.results54, go_sem, r0, r1, r2, r3, r4]) rfl ?_
    rw [HE.out]
    exact ⟨rfl, stored5 B2.out _ (Nat.le_refl _) _ _ _ _ _⟩
  | some t =>
    rw [show readV (some t) = .tuple #[.agg #[.int .i64 t.kind, .string ⟨t.text.toArray⟩, .int .i64 t.num, .int .i64 0, .int .i64 0], .int .i64 t.len] from rfl]
    go_wp2_with fail
    refine bodyPost_ret (v := .tuple #[.agg #[.int .i64 t.kind, .string ⟨t.text.toArray⟩, .int .i64 t.num, .int .i64 0, .int .i64 0], .int .i64 t.len]) (by simp [results, Tryd.results54, go_sem, r0, r1, r2, r3, r4]) rfl ?_
    rw [HE.out]
    exact ⟨rfl, stored5 B2.out _ (Nat.le_refl _) _ _ _ _ _⟩

set_option maxRecDepth 100000 in
set_option maxHeartbeats 4000000 in
theorem token_digit (s : ByteArray) (r : Int) (w : World) (hs : s.size ≤ 20000) (_hs1 : 1 ≤ s.size) (_hg : 0 < w.heap.size) (hok : SignsOk w) (h1 : smallZ r = false) (h2 : greatZ r = false) (h3 : digitZ r = true) :
    Calls Tryd.prog 54 #[.string s, .int .i32 r] w (ReadPost (readL r s.data.toList) w) := by
  have HE : Hid (readL r s.data.toList = numR s.data.toList) := by show _ = _; exact read_digit h3 _
  have HOK := Lib.hid hok
  have HMX : Hid (s.size ≤ maxLen) := by show _ ≤ _; unfold maxLen; omega
  clear hok
  go_enter Tryd.func54, Tryd.ntmps54
  go_wp2_with (first | (go_at_call 76; refine (lsmall_any _ _).mono ?_; rintro e w' ⟨rfl, rfl⟩) | (go_at_call 78; refine (lgreat_any _ _).mono ?_; rintro e w' ⟨rfl, rfl⟩) | (go_at_call 80; refine (ldigit_any _ _).mono ?_; rintro e w' ⟨rfl, rfl⟩))
  have x1 := Lib.hid (boxed5_new w (.int .i64 0) (.string ⟨#[]⟩) (.int .i64 0) (.int .i64 0) (.int .i64 0))
  have b1 := Lib.hid (stands_alloc w (.cells #[.int .i64 0, .string ⟨#[]⟩, .int .i64 0, .int .i64 0, .int .i64 0] 71))
  generalize w.alloc (.cells #[.int .i64 0, .string ⟨#[]⟩, .int .i64 0, .int .i64 0, .int .i64 0] 71) = w1 at *
  refine (lnum_any s _ HMX.out).mono ?_
  rintro e w2 ⟨rfl, b2⟩
  have X2 := x1.out.on b2; have B2 := Lib.hid (Below.step b1.out b2)
  obtain ⟨r0, r1, r2, r3, r4⟩ := X2.cells
  have z0 := frozen_of_row w2 _ 0 _ _ X2
  have z1 := frozen_of_row w2 _ 1 _ _ X2
  have z2 := frozen_of_row w2 _ 2 _ _ X2
  have z3 := frozen_of_row w2 _ 3 _ _ X2
  have z4 := frozen_of_row w2 _ 4 _ _ X2
  clear X2 b2
  generalize numR s.data.toList = rd at *
  cases rd with
  | none =>
    rw [show readV none = .tuple #[.agg #[.int .i64 0, .string ⟨#[]⟩, .int .i64 0, .int .i64 0, .int .i64 0], .int .i64 0] from rfl]
    go_wp2_with fail
    refine bodyPost_ret (v := .tuple #[.agg #[.int .i64 0, .string ⟨#[]⟩, .int .i64 0, .int .i64 0, .int .i64 0], .int .i64 0]) (by simp [results, Tryd.results54, go_sem, r0, r1, r2, r3, r4]) rfl ?_
    rw [HE.out]
    exact ⟨rfl, stored5 B2.out _ (Nat.le_refl _) _ _ _ _ _⟩
  | some t =>
    rw [show readV (some t) = .tuple #[.agg #[.int .i64 t.kind, .string ⟨t.text.toArray⟩, .int .i64 t.num, .int .i64 0, .int .i64 0], .int .i64 t.len] from rfl]
    go_wp2_with fail
    refine bodyPost_ret (v := .tuple #[.agg #[.int .i64 t.kind, .string ⟨t.text.toArray⟩, .int .i64 t.num, .int .i64 0, .int .i64 0], .int .i64 t.len]) (by simp [results, Tryd.results54, go_sem, r0, r1, r2, r3, r4]) rfl ?_
    rw [HE.out]
    exact ⟨rfl, stored5 B2.out _ (Nat.le_refl _) _ _ _ _ _⟩

set_option maxRecDepth 100000 in
set_option maxHeartbeats 4000000 in
theorem token_quote (s : ByteArray) (r : Int) (w : World) (hs : s.size ≤ 20000) (hs1 : 1 ≤ s.size) (_hg : 0 < w.heap.size) (hok : SignsOk w) (h1 : smallZ r = false) (h2 : greatZ r = false) (h3 : digitZ r = false) (h4 : (r == 34) = true) :
    Calls Tryd.prog 54 #[.string s, .int .i32 r] w (ReadPost (readL r s.data.toList) w) := by
  have HE : Hid (readL r s.data.toList = textR s.data.toList) := by show _ = _; rw [beq_iff_eq.1 h4]; rfl
  have HOK := Lib.hid hok
  have HMX : Hid (s.size ≤ maxLen) := by show _ ≤ _; unfold maxLen; omega
  clear hok
  go_enter Tryd.func54, Tryd.ntmps54
  go_wp2_with (first | (go_at_call 76; refine (lsmall_any _ _).mono ?_; rintro e w' ⟨rfl, rfl⟩) | (go_at_call 78; refine (lgreat_any _ _).mono ?_; rintro e w' ⟨rfl, rfl⟩) | (go_at_call 80; refine (ldigit_any _ _).mono ?_; rintro e w' ⟨rfl, rfl⟩))
  have x1 := Lib.hid (boxed5_new w (.int .i64 0) (.string ⟨#[]⟩) (.int .i64 0) (.int .i64 0) (.int .i64 0))
  have b1 := Lib.hid (stands_alloc w (.cells #[.int .i64 0, .string ⟨#[]⟩, .int .i64 0, .int .i64 0, .int .i64 0] 71))
  generalize w.alloc (.cells #[.int .i64 0, .string ⟨#[]⟩, .int .i64 0, .int .i64 0, .int .i64 0] 71) = w1 at *
  refine (ltext_any s _ hs hs1).mono ?_
  rintro e w2 ⟨rfl, b2⟩
  have X2 := x1.out.on b2; have B2 := Lib.hid (Below.step b1.out b2)
  obtain ⟨r0, r1, r2, r3, r4⟩ := X2.cells
  have z0 := frozen_of_row w2 _ 0 _ _ X2
  have z1 := frozen_of_row w2 _ 1 _ _ X2
  have z2 := frozen_of_row w2 _ 2 _ _ X2
  have z3 := frozen_of_row w2 _ 3 _ _ X2
  have z4 := frozen_of_row w2 _ 4 _ _ X2
  clear X2 b2
  generalize textR s.data.toList = rd at *
  cases rd with
  | none =>
    rw [show readV none = .tuple #[.agg #[.int .i64 0, .string ⟨#[]⟩, .int .i64 0, .int .i64 0, .int .i64 0], .int .i64 0] from rfl]
    go_wp2_with fail
    refine bodyPost_ret (v := .tuple #[.agg #[.int .i64 0, .string ⟨#[]⟩, .int .i64 0, .int .i64 0, .int .i64 0], .int .i64 0]) (by simp [results, Tryd.results54, go_sem, r0, r1, r2, r3, r4]) rfl ?_
    rw [HE.out]
    exact ⟨rfl, stored5 B2.out _ (Nat.le_refl _) _ _ _ _ _⟩
  | some t =>
    rw [show readV (some t) = .tuple #[.agg #[.int .i64 t.kind, .string ⟨t.text.toArray⟩, .int .i64 t.num, .int .i64 0, .int .i64 0], .int .i64 t.len] from rfl]
    go_wp2_with fail
    refine bodyPost_ret (v := .tuple #[.agg #[.int .i64 t.kind, .string ⟨t.text.toArray⟩, .int .i64 t.num, .int .i64 0, .int .i64 0], .int .i64 t.len]) (by simp [results, Tryd.results54, go_sem, r0, r1, r2, r3, r4]) rfl ?_
    rw [HE.out]
    exact ⟨rfl, stored5 B2.out _ (Nat.le_refl _) _ _ _ _ _⟩

set_option maxRecDepth 100000 in
set_option maxHeartbeats 4000000 in
theorem token_sign (s : ByteArray) (r : Int) (w : World) (hs : s.size ≤ 20000) (_hs1 : 1 ≤ s.size) (hg : 0 < w.heap.size) (hok : SignsOk w) (h1 : smallZ r = false) (h2 : greatZ r = false) (h3 : digitZ r = false) (h4 : (r == 34) = false) :
    Calls Tryd.prog 54 #[.string s, .int .i32 r] w (ReadPost (readL r s.data.toList) w) := by
  have HE : Hid (readL r s.data.toList = signR s.data.toList) := by show _ = _; exact read_other h1 h2 h3 (by simpa using h4) _
  have HOK := Lib.hid hok
  have HMX : Hid (s.size ≤ maxLen) := by show _ ≤ _; unfold maxLen; omega
  clear hok
  go_enter Tryd.func54, Tryd.ntmps54
  go_wp2_with (first | (go_at_call 76; refine (lsmall_any _ _).mono ?_; rintro e w' ⟨rfl, rfl⟩) | (go_at_call 78; refine (lgreat_any _ _).mono ?_; rintro e w' ⟨rfl, rfl⟩) | (go_at_call 80; refine (ldigit_any _ _).mono ?_; rintro e w' ⟨rfl, rfl⟩))
  have x1 := Lib.hid (boxed5_new w (.int .i64 0) (.string ⟨#[]⟩) (.int .i64 0) (.int .i64 0) (.int .i64 0))
  have b1 := Lib.hid (stands_alloc w (.cells #[.int .i64 0, .string ⟨#[]⟩, .int .i64 0, .int .i64 0, .int .i64 0] 71))
  generalize w.alloc (.cells #[.int .i64 0, .string ⟨#[]⟩, .int .i64 0, .int .i64 0, .int .i64 0] 71) = w1 at *
  refine (lsign_any s _ (Nat.lt_of_lt_of_le hg b1.out.size) (HOK.out.below hg b1.out)).mono ?_
  rintro e w2 ⟨rfl, b2⟩
  have X2 := x1.out.on b2; have B2 := Lib.hid (Below.step b1.out b2)
  obtain ⟨r0, r1, r2, r3, r4⟩ := X2.cells
  have z0 := frozen_of_row w2 _ 0 _ _ X2
  have z1 := frozen_of_row w2 _ 1 _ _ X2
  have z2 := frozen_of_row w2 _ 2 _ _ X2
  have z3 := frozen_of_row w2 _ 3 _ _ X2
  have z4 := frozen_of_row w2 _ 4 _ _ X2
  clear X2 b2
  generalize signR s.data.toList = rd at *
  cases rd with
  | none =>
    rw [show readV none = .tuple #[.agg #[.int .i64 0, .string ⟨#[]⟩, .int .i64 0, .int .i64 0, .int .i64 0], .int .i64 0] from rfl]
    go_wp2_with fail
    refine bodyPost_ret (v := .tuple #[.agg #[.int .i64 0, .string ⟨#[]⟩, .int .i64 0, .int .i64 0, .int .i64 0], .int .i64 0]) (by simp [results, Tryd.results54, go_sem, r0, r1, r2, r3, r4]) rfl ?_
    rw [HE.out]
    exact ⟨rfl, stored5 B2.out _ (Nat.le_refl _) _ _ _ _ _⟩
  | some t =>
    rw [show readV (some t) = .tuple #[.agg #[.int .i64 t.kind, .string ⟨t.text.toArray⟩, .int .i64 t.num, .int .i64 0, .int .i64 0], .int .i64 t.len] from rfl]
    go_wp2_with fail
    refine bodyPost_ret (v := .tuple #[.agg #[.int .i64 t.kind, .string ⟨t.text.toArray⟩, .int .i64 t.num, .int .i64 0, .int .i64 0], .int .i64 t.len]) (by simp [results, Tryd.results54, go_sem, r0, r1, r2, r3, r4]) rfl ?_
    rw [HE.out]
    exact ⟨rfl, stored5 B2.out _ (Nat.le_refl _) _ _ _ _ _⟩

theorem token_any (s : ByteArray) (r : Int) (w : World) (hs : s.size ≤ 20000) (hs1 : 1 ≤ s.size) (hg : 0 < w.heap.size) (hok : SignsOk w) :
    Calls Tryd.prog 54 #[.string s, .int .i32 r] w (ReadPost (readL r s.data.toList) w) := by
  cases h1 : smallZ r with
  | true => exact token_small s r w hs hs1 hg hok h1
  | false =>
  cases h2 : greatZ r with
  | true => exact token_great s r w hs hs1 hg hok h1 h2
  | false =>
  cases h3 : digitZ r with
  | true => exact token_digit s r w hs hs1 hg hok h1 h2 h3
  | false =>
  cases h4 : (r == 34) with
  | true => exact token_quote s r w hs hs1 hg hok h1 h2 h3 h4
  | false => exact token_sign s r w hs hs1 hg hok h1 h2 h3 h4

end Go.Proofs.YtgpgjaenbhbbgaaDoor
