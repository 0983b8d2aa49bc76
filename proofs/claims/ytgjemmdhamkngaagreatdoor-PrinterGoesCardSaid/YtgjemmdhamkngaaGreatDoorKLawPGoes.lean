/-
  LawPGoes
-/
import Derived.Test.YtgjemmdhamkngaaGreatDoorK29
import Derived.Test.YtgjemmdhamkngaaGreatDoorKG11
import Derived.Test.YtgjemmdhamkngaaGreatDoorKG12
import Derived.Test.YtgjemmdhamkngaaGreatDoorK30
namespace Go.Proofs.YtgjemmdhamkngaaGreatDoor.printerGoes
open Go.RowKit
theorem told_true {b : Bool} {l : List UInt8} (h : b = true) : told b l = l := by rw [h]; rfl
theorem pr_few {x : Pr} (h : prB x = true) : x.decls.length ≤ 1000 ∧ x.facts.length ≤ 1000 ∧ x.rules.length ≤ 1000 := by
 rw [prB] at h
 simp only [Bool.and_eq_true] at h
 have h1 := (listB_bounds h.1).2.1
 have h2 := (listB_bounds h.2.1).2.1
 have h3 := (listB_bounds h.2.2).2.1
 omega
set_option maxRecDepth 100000 in
set_option maxHeartbeats 3000000 in
theorem walk (x : Pr) (W : World) (c0 c1 c2 : Value) (htab : TabOk W) (g : RepPr (fun k => k < W.heap.size) W x c0 c1 c2) :
  Calls Tryz.prog 4 #[.agg #[c0, c1, c2]] W fun e W' => e = .returned (.bool true) ∧ Below W.heap.size W W' := by
 have G0 := Lib.hid g
 obtain ⟨f0, f1, rfl⟩ := SlG.form g.1
 obtain ⟨f2, f3, rfl⟩ := SlG.form g.2.1
 obtain ⟨f4, f5, rfl⟩ := SlG.form g.2.2
 have HG := Lib.hid (tab_lt htab); have HT := Lib.hid htab
 clear g htab
 go_enter Tryz.func4, Tryz.ntmps4
 go_wp2_with fail
 have x0 := boxPr_new W (.slice f0 x.decls.length f1) (.slice f2 x.facts.length f3) (.slice f4 x.rules.length f5)
 have d0 := below_alloc W (.cells #[.slice f0 x.decls.length f1, .slice f2 x.facts.length f3, .slice f4 x.rules.length f5] 26)
 generalize W.alloc (.cells #[.slice f0 x.decls.length f1, .slice f2 x.facts.length f3, .slice f4 x.rules.length f5] 26) = w1 at *
 have B1 := Lib.hid d0
 obtain ⟨p0, p1, p2⟩ := x0.cells
 clear d0 x0
 go_wp2_with fail
 clear p0 p1 p2
 refine (fitPr_any x (fun k => k < W.heap.size) w1 _ _ _ (fun k hk => Nat.lt_of_lt_of_le hk B1.out.size) (RepPr.on (fun _ h => h) (fun k hk => B1.out.block k hk) G0.out)).mono ?_
 rintro e w2 ⟨v0, v1, v2, rfl, hrep, hb⟩
 have HQR := Lib.hid (fitPr_right x)
 generalize fitPr x = q at *
 obtain ⟨h0, h1, rfl⟩ := SlG.form hrep.1
 obtain ⟨h2, h3, rfl⟩ := SlG.form hrep.2.1
 obtain ⟨h4, h5, rfl⟩ := SlG.form hrep.2.2
 have mk := boxPr_new w2 (.slice h0 q.decls.length h1) (.slice h2 q.facts.length h3) (.slice h4 q.rules.length h5)
 have da := below_alloc w2 (.cells #[.slice h0 q.decls.length h1, .slice h2 q.facts.length h3, .slice h4 q.rules.length h5] 26)
 have GQ := Lib.hid (RepPr.on (S' := fun k => k < (w2.alloc (.cells #[.slice h0 q.decls.length h1, .slice h2 q.facts.length h3, .slice h4 q.rules.length h5] 26)).heap.size) (fun k hk => Nat.lt_of_lt_of_le hk.2 da.size) (fun k hk => da.block k hk.2) hrep)
 have B3 := Lib.hid (Below.step B1.out (Below.step hb da))
 have XQ := Lib.hid mk
 obtain ⟨r0, r1, r2⟩ := mk.cells
 clear mk da hrep hb B1
 go_wp2_with fail
 clear r0 r1 r2
 generalize w2.alloc (.cells #[.slice h0 q.decls.length h1, .slice h2 q.facts.length h3, .slice h4 q.rules.length h5] 26) = w3 at *
 obtain ⟨k2, hk2⟩ : ∃ k, w2.heap.size = k := ⟨_, rfl⟩
 rw [hk2] at XQ ⊢
 clear hk2
 refine (prPr_any q (fun k => k < w3.heap.size) w3 _ _ _ (fun _ h => h) (Nat.lt_of_lt_of_le HG.out B3.out.size) (HT.out.below HG.out B3.out) GQ.out (fun h => showPr_fits h)).mono ?_
 rw [told_true HQR.out]
 rintro e w4 ⟨rfl, hb⟩
 have B4 := Lib.hid (Below.step B3.out hb); have X4 := Lib.hid (XQ.out.on hb)
 have G4 := Lib.hid (RepPr.on (S' := fun k => k < w4.heap.size) (fun k hk => Nat.lt_of_lt_of_le hk hb.size) (fun k hk => hb.block k hk) GQ.out)
 have HPF := Lib.hid (pr_few HQR.out)
 clear hb XQ GQ B3
 have hfit := showPr_fits HQR.out
 obtain ⟨T, hT⟩ : ∃ t : ByteArray, (⟨(showPr q).toArray⟩ : ByteArray) = t := ⟨_, rfl⟩
 have hsz : T.size ≤ 140737488355328 := by rw [← hT, size_mk]; exact hfit
 have HLF := Lib.hid (lf_pr HQR.out hT)
 rw [hT]
 clear hT hfit
 go_wp2_with fail
 go_loopw [5, 6] (fun nv iv wr => ∃ j : Nat, j ≤ T.size ∧ nv = .int .i64 (lfTo T j : Nat) ∧ iv = .int .i64 j ∧ w4 = wr) (fun _ iv _ => T.size - (intOf iv).toNat)
 case atStart => exact ⟨0, Nat.zero_le _, rfl, rfl, rfl⟩
 case round =>
  obtain ⟨j, hj, rfl, rfl, rfl⟩ := hrel
  by_cases hlt : j < T.size
  ·have HN := Lib.hid (lfTo_succ T j hlt)
   have hle := lfTo_le T j
   generalize lfTo T j = m at *
   by_cases h10 : T[j].toNat = 10
   ·have HG2 : Hid (lfTo T (j + 1) = m + 1) := by show _ = _; rw [HN.out, if_pos h10]
    have hcx : ((T[j].toNat : Int) == 10) = true := by simp [h10]
    clear h10
    go_wp2_with fail
    go_roundw
    case rel => exact ⟨j + 1, hlt, by rw [HG2.out]; go_num, by go_num, by trivial⟩
    case measure => simp [intOf]; omega
   ·have HG2 : Hid (lfTo T (j + 1) = m) := by show _ = _; rw [HN.out, if_neg h10]; rfl
    have hcx : ((T[j].toNat : Int) == 10) = false := by simp; omega
    clear h10
    go_wp2_with fail
    go_roundw
    case rel => exact ⟨j + 1, hlt, by rw [HG2.out], by go_num, by trivial⟩
    case measure => simp [intOf]; omega
  ·obtain rfl : j = T.size := by omega
   rw [HLF.out]
   clear hj hlt HLF hsz
   obtain ⟨p0, p1, p2⟩ := X4.out.cells
   go_wp2_with fail
   refine (tells_any q (fun k => k < w4.heap.size) w4 _ _ _ (fun _ h => h) (Nat.lt_of_lt_of_le HG.out B4.out.size) (HT.out.below HG.out B4.out) G4.out).mono ?_
   rintro e w5 ⟨rfl, hb⟩
   have B5 := Lib.hid (Below.step B4.out hb); have X5 := Lib.hid (X4.out.on hb)
   have G5 := Lib.hid (RepPr.on (S' := fun k => k < w5.heap.size) (fun k hk => Nat.lt_of_lt_of_le hk hb.size) (fun k hk => hb.block k hk) G4.out)
   clear hb X4 G4 B4 p0 p1 p2
   obtain ⟨p0, p1, p2⟩ := X5.out.cells
   go_wp2_with fail
   refine (prRight_any q (fun k => k < w5.heap.size) w5 _ _ _ (fun _ h => h) G5.out).mono ?_
   rw [HQR.out]
   rintro e w6 ⟨rfl, hb⟩
   have B6 := Lib.hid (Below.step B5.out hb); have X6 := Lib.hid (X5.out.on hb)
   clear hb X5 B5 p0 p1 p2
   obtain ⟨p0, p1, p2⟩ := X6.out.cells
   have hw1 : wrap64 ((q.decls.length : Int) + (q.facts.length : Int)) = (q.decls.length : Int) + (q.facts.length : Int) := by have := HPF.out; unfold wrap64; omega
   have hw2 : wrap64 ((q.decls.length : Int) + (q.facts.length : Int) + (q.rules.length : Int)) = (q.decls.length : Int) + (q.facts.length : Int) + (q.rules.length : Int) := by have := HPF.out; unfold wrap64; omega
   go_wp2_with fail
   go_ret
   exact ⟨rfl, B6.out⟩
end Go.Proofs.YtgjemmdhamkngaaGreatDoor.printerGoes
