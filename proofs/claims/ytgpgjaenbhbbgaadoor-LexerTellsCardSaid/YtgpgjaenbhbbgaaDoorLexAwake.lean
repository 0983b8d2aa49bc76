/-
  Layer 3's first calls whose answers are fixed ('awake'): true.
-/
import Derived.Test.YtgpgjaenbhbbgaaDoorLexWalk
namespace Go.Proofs.YtgpgjaenbhbbgaaDoor
open Go.RowKit

def exToks : List Tok := [⟨1, [112], 0, 1, 1⟩, ⟨5, [40], 0, 1, 2⟩, ⟨5, [64], 0, 1, 3⟩, ⟨2, [83], 0, 1, 4⟩, ⟨5, [41], 0, 1, 5⟩, ⟨6, [], 0, 1, 10⟩]
theorem aw_scan : scanB ⟨#[112, 40, 64, 83, 41, 32, 37, 32, 120]⟩ = .ok exToks := by kernel_rfl
theorem aw_bad : scanB ⟨#[97, 10, 32, 63]⟩ = .bad 2 2 := by kernel_rfl

set_option maxRecDepth 100000 in
set_option maxHeartbeats 4000000 in
theorem awake3_any (w : World) (hg : 0 < w.heap.size) (hok : SignsOk w) :
    Calls Tryd.prog 24 #[] w fun e w' => e = .returned (.bool true) ∧ Below w.heap.size w w' := by
  have HOK := Lib.hid hok; clear hok
  go_enter Tryd.func24, Tryd.ntmps24
  go_wp2_with fail
  refine (scan_any _ _ (by unfold maxLen; decide) hg HOK.out).mono ?_
  rw [aw_scan]
  rintro e w1 ⟨v, rfl, ho, b1⟩
  obtain ⟨va, vc, rfl⟩ := ho.form
  have HO := Lib.hid ho; have B1 := Lib.hid b1
  clear ho b1
  go_wp2_with fail
  have b2 := stands_alloc w1 (.cells #[.int .i64 0, .int .i64 0] 46)
  have x2 := boxed2_new w1 (.int .i64 0) (.int .i64 0)
  generalize w1.alloc (.cells #[.int .i64 0, .int .i64 0] 46) = w2 at *
  have B2 := Below.step B1.out b2
  refine (scan_any _ _ (by unfold maxLen; decide) (Nat.lt_of_lt_of_le hg B2.size) (HOK.out.below hg B2)).mono ?_
  rw [aw_bad]
  rintro e w3 ⟨rfl, b3⟩
  have X3 := x2.on (Below.step b3 (stands_alloc w3 (.cells #[.int .i64 2, .int .i64 2] 46)))
  have B3 := Lib.hid (Below.step (Below.step B2 b3) (stands_alloc w3 (.cells #[.int .i64 2, .int .i64 2] 46)))
  have hO := HO.out.stands (Below.step b2 (Below.step b3 (stands_alloc w3 (.cells #[.int .i64 2, .int .i64 2] 46))))
  obtain ⟨-, hcap, hat⟩ := hO.at
  obtain ⟨b, -, -, rfl, hc⟩ := hat (by decide)
  have c0 := hc 0 (by decide)
  have c3 := hc 3 (by decide)
  have c5 := hc 5 (by decide)
  simp only [exToks, List.getElem_cons_zero, List.getElem_cons_succ, Nat.zero_mul, Nat.zero_add, Nat.reduceMul, Nat.reduceAdd] at c0 c3 c5
  obtain ⟨c00, c01, c02, c03, c04⟩ := c0
  obtain ⟨c30, c31, c32, c33, c34⟩ := c3
  obtain ⟨c50, c51, c52, c53, c54⟩ := c5
  obtain ⟨p0, p1⟩ := X3.cells
  have hlen : exToks.length = 6 := rfl
  rw [hlen] at hcap ⊢
  clear hO hc hat X3 b2 b3 B2 x2 HO
  go_wp2_with fail
  go_ret
  exact ⟨rfl, B3.out⟩

end Go.Proofs.YtgpgjaenbhbbgaaDoor
