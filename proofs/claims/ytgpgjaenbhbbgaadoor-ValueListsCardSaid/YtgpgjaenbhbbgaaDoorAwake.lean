/-
  The first calls whose answers are fixed ('awake'): true.
-/
import Derived.Test.YtgpgjaenbhbbgaaDoorMakers
import Derived.Test.YtgpgjaenbhbbgaaDoorPrinted
import Derived.Test.YtgpgjaenbhbbgaaDoorCompare
namespace Go.Proofs.YtgpgjaenbhbbgaaDoor
open Go.RowKit

def exV : V := .mk 4 0 ⟨#[]⟩ [.mk 1 3 ⟨#[]⟩ [], .mk 2 0 ⟨#[97, 98]⟩ [], .mk 3 0 ⟨#[110, 49]⟩ []]
theorem text_ab : textB ⟨#[97, 98]⟩ = true := by decide
theorem name_n1 : nameB ⟨#[110, 49]⟩ = true := by decide
theorem name_1n : nameB ⟨#[49, 110]⟩ = false := by decide
theorem right_ex : rightV 4 exV = true := by
  simp [exV, rightV, baseB, text_ab, name_n1, ByteArray.toList, ByteArray.toList.loop, ByteArray.size]
theorem print_ex : printB exV = [91, 51, 44, 34, 97, 98, 34, 44, 110, 49, 93] := by
  rw [printB, if_pos right_ex]
  have h3 : Lib.itoa 3 = [51] := by simp [Lib.itoa, Lib.decDigits_one (i := 3) (by omega)]
  simp [exV, prV, prL, h3]
theorem right_nil : rightV 4 (.mk 4 0 ⟨#[]⟩ []) = true := by
  simp [rightV, baseB, ByteArray.toList, ByteArray.toList.loop, ByteArray.size]
theorem print_nil : printB (.mk 4 0 ⟨#[]⟩ []) = [91, 93] := by
  rw [printB, if_pos right_nil]
  simp [prV, prL]

theorem cmp_ex : cmpV (.mk 1 3 ⟨#[]⟩ []) (.mk 2 0 ⟨#[]⟩ []) = -1 := by simp [cmpV, Lib.compareInt]
def exL : List V := [.mk 1 3 ⟨#[]⟩ [], .mk 2 0 ⟨#[97, 98]⟩ [], .mk 3 0 ⟨#[110, 49]⟩ []]
abbrev exRow : Array Value := #[.int .i64 1, .int .i64 3, .string ⟨#[]⟩, .slice none 0 0, .int .i64 2, .int .i64 0, .string ⟨#[97, 98]⟩, .slice none 0 0, .int .i64 3, .int .i64 0, .string ⟨#[110, 49]⟩, .slice none 0 0]
theorem exL_at (w : World) : RepL (w.heap.size + 1) (w.alloc (.cells exRow 24)) exL (.slice (some ⟨w.heap.size, 0, none⟩) 3 3) := by
  refine RepRow.slice (cur := exRow) ?_ (alloc_new _ _) (Nat.lt_succ_self _) (Nat.le_refl _) (by simp [exL])
  intro i hi
  match i, hi with
  | 0, _ => exact ⟨_, _, _, _, rfl, rfl, rfl, rfl, repV_num _ _ _ ⟨by omega, by omega⟩⟩
  | 1, _ => exact ⟨_, _, _, _, rfl, rfl, rfl, rfl, repV_str _ _ _ _ ⟨by omega, by omega⟩ (by unfold maxLen; decide)⟩
  | 2, _ => exact ⟨_, _, _, _, rfl, rfl, rfl, rfl, repV_str _ _ _ _ ⟨by omega, by omega⟩ (by unfold maxLen; decide)⟩

set_option maxRecDepth 100000 in
set_option maxHeartbeats 2000000 in
theorem awake_any (w : World) (hg : 1 < w.heap.size) (htab : TabOk w) :
    Calls Tryd.prog 6 #[] w fun e w' => e = .returned (.bool true) ∧ Below w.heap.size w w' := by
  have HT := Lib.hid htab; clear htab
  go_enter Tryd.func6, Tryd.ntmps6
  go_wp2_with fail
  refine (number_any _ _).mono ?_
  rintro e w1 ⟨rfl, b1⟩
  go_wp2_with fail
  refine (text_any _ _).mono ?_
  rintro e w2 ⟨rfl, b2⟩
  go_wp2_with fail
  refine (addr_any _ _).mono ?_
  rintro e w3 ⟨rfl, b3⟩
  have s1 := b1.size; have s2 := b2.size; have s3 := b3.size
  have b13 : Below w.heap.size w w3 := (b1.trans (b2.mono s1)).trans (b3.mono (by omega))
  clear b1 b2 b3
  go_wp2_with fail
  have a4 := stands_alloc w3 (.cells exRow 24)
  have b4 : Below w.heap.size w (w3.alloc (.cells exRow 24)) := b13.trans (a4.mono (by omega))
  refine (list_any exL (w3.heap.size + 1) _ _ (by simp) (exL_at w3)).mono ?_
  rintro e w5 ⟨r, rfl, hrl, b5⟩
  obtain ⟨ra, rb, ro, rc, hr1, -⟩ := id hrl
  subst hr1
  have s5 := b5.size
  simp only [World.size_alloc] at s5
  have b05 : Below w.heap.size w w5 := b4.trans (b5.mono (by simp; omega))
  clear b5 b4 a4 b13
  have HV : Hid (RepV w5.heap.size w5 exV (.int .i64 4) (.int .i64 0) (.string ⟨#[]⟩) (.slice ra exL.length rc)) :=
    repV_mk.2 ⟨rfl, rfl, rfl, ⟨by omega, by omega⟩, ⟨by omega, by omega⟩, by unfold maxLen; simp [ByteArray.size], hrl.on (fun k hk => hk.2) (fun _ _ => rfl)⟩
  clear hrl
  go_wp2_with fail
  have a6 := stands_alloc w5 (.cells #[.int .i64 4, .int .i64 0, .string ⟨#[]⟩, .slice ra exL.length rc] 24)
  have n6 := alloc_new w5 (.cells #[.int .i64 4, .int .i64 0, .string ⟨#[]⟩, .slice ra exL.length rc] 24)
  have b06 : Below w.heap.size w (w5.alloc (.cells #[.int .i64 4, .int .i64 0, .string ⟨#[]⟩, .slice ra exL.length rc] 24)) := b05.trans (a6.mono (by omega))
  refine (print_any exV w5.heap.size _ _ _ _ _ (by simp) (by simp <;> omega) (HT.out.below hg b06) (RepV.below (fun j hj => a6.block j hj) _ HV.out)).mono ?_
  rintro e w7 ⟨rfl, b7⟩
  rw [print_ex]
  have s7 := b7.size
  simp only [World.size_alloc] at s7
  have n7 := (b7.block w5.heap.size (by simp)).trans n6
  have b07 : Below w.heap.size w w7 := b06.trans (b7.mono (by simp; omega))
  have b57 : Below w5.heap.size w5 w7 := Below.trans a6 (b7.mono (by simp))
  clear b06 b7 a6 n6 b05
  go_wp2_with fail
  refine (number_any _ _).mono ?_
  rintro e w8 ⟨rfl, b8⟩
  have s8 := b8.size
  go_wp2_with fail
  refine (text_any _ _).mono ?_
  rintro e w9 ⟨rfl, b9⟩
  have s9 := b9.size
  have b79 : Below w7.heap.size w7 w9 := b8.trans (b9.mono s8)
  clear b8 b9
  go_wp2_with fail
  refine (cmp_any (.mk 1 3 ⟨#[]⟩ []) (.mk 2 0 ⟨#[]⟩ []) w9.heap.size _ _ _ _ _ _ _ _ _ (Nat.le_refl _) (repV_num _ _ _ ⟨by omega, by omega⟩) (repV_str _ _ _ _ ⟨by omega, by omega⟩ (by unfold maxLen; simp [ByteArray.size]))).mono ?_
  rintro e w10 ⟨rfl, b10⟩
  have s10 := b10.size
  have b710 : Below w7.heap.size w7 w10 := b79.trans (b10.mono (by omega))
  clear b79 b10
  rw [cmp_ex]
  have n10 := (b710.block w5.heap.size (by omega)).trans n7
  have d0 := cell_of_block' (i := 0) n10 _ rfl
  have d1 := cell_of_block' (i := 1) n10 _ rfl
  have d2 := cell_of_block' (i := 2) n10 _ rfl
  have d3 := cell_of_block' (i := 3) n10 _ rfl
  have b010 : Below w.heap.size w w10 := b07.trans (b710.mono (by omega))
  have b510 : Below w5.heap.size w5 w10 := b57.trans (b710.mono (by omega))
  clear n10 n7 b07 b57 b710
  go_wp2_with fail
  refine (right_any exV w5.heap.size _ _ _ _ _ (by omega) (RepV.below (fun j hj => b510.block j hj) _ HV.out)).mono ?_
  rintro e w11 ⟨rfl, b11⟩
  rw [right_ex]
  have s11 := b11.size
  clear d0 d1 d2 d3 b510
  go_wp2_with fail
  refine (name_any _ _ (by unfold maxLen; decide)).mono ?_
  rintro e w12 ⟨rfl, b12⟩
  rw [name_n1]
  have s12 := b12.size
  go_wp2_with fail
  refine (name_any _ _ (by unfold maxLen; decide)).mono ?_
  rintro e w13 ⟨rfl, b13⟩
  rw [name_1n]
  have s13 := b13.size
  have b013 : Below w.heap.size w w13 := ((b010.trans (b11.mono (by omega))).trans (b12.mono (by omega))).trans (b13.mono (by omega))
  clear b11 b12 b13 b010
  go_wp2_with fail
  refine (list_any [] w13.heap.size _ _ (Nat.le_refl _) ⟨none, 0, 0, 0, rfl, Nat.le_refl _, by simp, fun h => by omega, fun h => by simp at h, fun i hi => by simp at hi⟩).mono ?_
  rintro e w14 ⟨r, rfl, hrl2, b14⟩
  have s14 := b14.size
  have b014 : Below w.heap.size w w14 := b013.trans (b14.mono (by omega))
  clear b14
  obtain ⟨ra2, rb2, ro2, rc2, hr2, -⟩ := id hrl2
  subst hr2
  have HV2 : Hid (RepV w14.heap.size w14 (.mk 4 0 ⟨#[]⟩ []) (.int .i64 4) (.int .i64 0) (.string ⟨#[]⟩) (.slice ra2 ([] : List V).length rc2)) :=
    repV_mk.2 ⟨rfl, rfl, rfl, ⟨by omega, by omega⟩, ⟨by omega, by omega⟩, by unfold maxLen; simp [ByteArray.size], hrl2.on (fun k hk => hk.2) (fun _ _ => rfl)⟩
  clear hrl2
  go_wp2_with fail
  refine (print_any (.mk 4 0 ⟨#[]⟩ []) w14.heap.size _ _ _ _ _ (Nat.le_refl _) (by omega) (HT.out.below hg b014) HV2.out).mono ?_
  rintro e w15 ⟨rfl, b15⟩
  rw [print_nil]
  go_wp2_with fail
  go_ret
  exact ⟨rfl, b014.trans (b15.mono (by omega))⟩

end Go.Proofs.YtgpgjaenbhbbgaaDoor
