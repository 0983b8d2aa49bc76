/-
  PrinterWrong, the walk: for any program and any two numbers the law returns true.
-/
import Derived.Test.YtgjemmdhamkngaaGreatDoorJ20
import Derived.Test.YtgjemmdhamkngaaGreatDoorWrongKit
import Derived.Test.YtgjemmdhamkngaaGreatDoorJ21
import Derived.Deep.Cut
namespace Go.Proofs.YtgjemmdhamkngaaGreatDoor.printerWrong
open Go.RowKit

theorem told_false {b : Bool} {l : List UInt8} (h : b = false) : told b l = [] := by rw [h]; rfl

set_option maxRecDepth 100000 in
set_option maxHeartbeats 6000000 in
theorem walk (x : Pr) (n1 n2 : Int) (W : World) (c0 c1 c2 : Value) (htab : TabOk W) (g : RepPr (fun k => k < W.heap.size) W x c0 c1 c2) (hn1 : I64 n1) (hn2 : I64 n2) :
    Calls Tryz.prog 7 #[.agg #[c0, c1, c2], .int .i64 n1, .int .i64 n2] W fun e W' => e = .returned (.bool true) ∧ Below W.heap.size W W' := by
  have G0 := Lib.hid g; have HN1 := Lib.hid hn1; have HN2 := Lib.hid hn2
  obtain ⟨f0, f1, rfl⟩ := SlG.form g.1
  obtain ⟨f2, f3, rfl⟩ := SlG.form g.2.1
  obtain ⟨f4, f5, rfl⟩ := SlG.form g.2.2
  have HG := Lib.hid (tab_lt htab); have HT := Lib.hid htab
  clear g htab hn1 hn2
  go_enter Tryz.func7, Tryz.ntmps7
  go_wp2_with fail
  have x0 := boxPr_new W (.slice f0 x.decls.length f1) (.slice f2 x.facts.length f3) (.slice f4 x.rules.length f5)
  have d0 := below_alloc W (.cells #[.slice f0 x.decls.length f1, .slice f2 x.facts.length f3, .slice f4 x.rules.length f5] 26)
  generalize W.alloc (.cells #[.slice f0 x.decls.length f1, .slice f2 x.facts.length f3, .slice f4 x.rules.length f5] 26) = w0 at *
  have B0 := Lib.hid d0; have X0 := Lib.hid x0
  clear d0 x0
  refine (awake4_any _ (Nat.lt_of_lt_of_le HG.out B0.out.size) (HT.out.below HG.out B0.out)).mono ?_
  rintro e w1 ⟨rfl, hb⟩
  have B1 := Lib.hid (Below.step B0.out hb); have X1 := Lib.hid (X0.out.on hb)
  clear hb B0 X0
  obtain ⟨p0, p1, p2⟩ := X1.out.cells
  go_wp2_with fail
  clear p0 p1 p2
  refine (fitPr_any x (fun k => k < W.heap.size) w1 _ _ _ (fun k hk => Nat.lt_of_lt_of_le hk B1.out.size) (RepPr.on (fun _ h => h) (fun k hk => B1.out.block k hk) G0.out)).mono ?_
  rintro e w2 ⟨v0, v1, v2, rfl, hrep, hb⟩
  have HQR := Lib.hid (fitPr_right x)
  generalize fitPr x = q at *
  obtain ⟨h0, h1, rfl⟩ := SlG.form hrep.1
  obtain ⟨h2, h3, rfl⟩ := SlG.form hrep.2.1
  obtain ⟨h4, h5, rfl⟩ := SlG.form hrep.2.2
  have mk := boxPr_new w2 (.slice h0 q.decls.length h1) (.slice h2 q.facts.length h3) (.slice h4 q.rules.length h5)
  have da := below_alloc w2 (.cells #[.slice h0 q.decls.length h1, .slice h2 q.facts.length h3, .slice h4 q.rules.length h5] 26)
  have sa := World.size_alloc w2 (.cells #[.slice h0 q.decls.length h1, .slice h2 q.facts.length h3, .slice h4 q.rules.length h5] 26)
  have GQ := Lib.hid (RepPr.on (S' := fun k => k < w2.heap.size) (fun k hk => hk.2) (fun k hk => da.block k hk.2) hrep)
  have B3 := Lib.hid (Below.step B1.out (Below.step hb da))
  have XQ := Lib.hid mk; have HSA := Lib.hid sa
  have HLN : Hid (q.rules.length ≤ 64) := by
    show _ ≤ _
    have h := HQR.out
    rw [prB] at h
    simp only [Bool.and_eq_true] at h
    have := (listB_bounds h.2.2).2.1
    omega
  obtain ⟨r0, r1, r2⟩ := mk.cells
  have HW0 : Hid (W.heap.size ≤ w2.heap.size) := Nat.le_trans B1.out.size hb.size
  clear mk da sa hrep hb
  go_upto_region 3 with fail
  generalize w2.alloc (.cells #[.slice h0 q.decls.length h1, .slice h2 q.facts.length h3, .slice h4 q.rules.length h5] 26) = w3 at *
  obtain ⟨k8, hk8⟩ : ∃ k, w2.heap.size = k := ⟨_, rfl⟩
  have HW2 : Hid (W.heap.size ≤ k8) := by show _ ≤ _; rw [← hk8]; exact HW0.out
  rw [hk8] at XQ HSA GQ r0 r1 r2 ⊢
  clear hk8
  by_cases hz : q.rules.length = 0
  · have hz1 : ((q.rules.length : Int) == 0) = true := by simp [hz]
    go_wp2_with fail
    go_ret
    exact ⟨rfl, B3.out⟩
  · have hz1 : ((q.rules.length : Int) == 0) = false := by simp; exact fun e => hz (by rw [e]; rfl)
    have hzp : 0 < q.rules.length := by omega
    go_wp2_with fail
    refine (pick4_any n2 (q.rules.length : Int) _ HN2.out (by omega) (by have := HLN.out; omega)).mono ?_
    rintro e w' ⟨rfl, rfl⟩
    have hpb := pickZ_bd n2 (q.rules.length : Int) (by omega)
    obtain ⟨k, hk⟩ := Int.eq_ofNat_of_zero_le hpb.1
    rw [hk] at hpb ⊢
    have hkl : k < q.rules.length := by omega
    have HKL := Lib.hid hkl
    obtain ⟨-, -, lb, lo, xa, xc, ya, yc, hga, hSb, g0, g1, g2, g3, g4, g5, gr⟩ := RepRus.at GQ.out.2.2 k hkl
    rw [hga] at r2
    have hk1 : (0 : Int) ≤ (k : Int) := Int.natCast_nonneg k
    have hk2 : (k : Int) < (q.rules.length : Int) := by omega
    have GR := Lib.hid gr
    generalize hr : q.rules[k] = r at *
    clear hz hz1 hpb hk hr gr hSb
    go_wp2_with fail
    clear r0 r1 r2 g0 g1 g2 g3 g4 g5 hk1 hk2 hga
    have xr := boxRu_new w3 (.string r.label) (.string r.head) (.slice xa r.args.length xc) (.string r.agg) (.int .i64 r.at') (.slice ya r.body.length yc)
    have dr := below_alloc w3 (.cells #[.string r.label, .string r.head, .slice xa r.args.length xc, .string r.agg, .int .i64 r.at', .slice ya r.body.length yc] 37)
    generalize w3.alloc (.cells #[.string r.label, .string r.head, .slice xa r.args.length xc, .string r.agg, .int .i64 r.at', .slice ya r.body.length yc] 37) = w4 at *
    obtain ⟨kr, hkr⟩ : ∃ k, w3.heap.size = k := ⟨_, rfl⟩
    rw [hkr] at xr ⊢
    have XR := Lib.hid xr; have D4 := Lib.hid dr; have HKR : Hid (w3.heap.size = kr) := hkr
    clear xr dr hkr
    refine (pick4_any n1 6 _ HN1.out (by omega) (by omega)).mono ?_
    rintro e w' ⟨rfl, rfl⟩
    have hpb := pickZ_bd n1 6 (by omega)
    have hj : pickZ n1 6 = 0 ∨ pickZ n1 6 = 1 ∨ pickZ n1 6 = 2 ∨ pickZ n1 6 = 3 ∨ pickZ n1 6 = 4 ∨ pickZ n1 6 = 5 := by omega
    clear hpb hkl hzp
    rcases hj with hj | hj | hj | hj | hj | hj
    · rw [hj]
      clear hj
      obtain ⟨p0, p1, p2, p3, p4, p5⟩ := XR.out.cells
      have z03 := frozen_of_row w4 kr 3 _ _ XR.out
      have A0 : Hid (BoxRu (w4.setCell ⟨kr, 3, none⟩ (.string ⟨#[115, 117, 109]⟩)) kr (.string r.label) (.string r.head) (.slice xa r.args.length xc) (.string ⟨#[115, 117, 109]⟩) (.int .i64 r.at') (.slice ya r.body.length yc)) := heap_setCell_same _ _ _ _ _ _ XR.out
      have D5 : Hid (Below w3.heap.size w3 (w4.setCell ⟨kr, 3, none⟩ (.string ⟨#[115, 117, 109]⟩))) := (Below.setCell (p := ⟨kr, 3, none⟩) D4.out (by have := HKR.out; simp; omega) (.string ⟨#[115, 117, 109]⟩))
      go_upto_region 21 with fail
      clear p0 p1 p2 p3 p4 p5 z03
      have A5 := A0
      clear A0
      generalize (w4.setCell ⟨kr, 3, none⟩ (.string ⟨#[115, 117, 109]⟩)) = w5 at *
      have GY : Hid (RepRu (fun k => k < k8) w5 { r with agg := ⟨#[115, 117, 109]⟩ } (.string r.label) (.string r.head) (.slice xa r.args.length xc) (.string ⟨#[115, 117, 109]⟩) (.int .i64 r.at') (.slice ya r.body.length yc)) := ⟨rfl, rfl, rfl, rfl, GR.out.2.2.2.2.1, GR.out.2.2.2.2.2.1, (by show (⟨#[115, 117, 109]⟩ : ByteArray).size ≤ maxLen; decide), GR.out.2.2.2.2.2.2.2.1, RepMs.on (fun _ h => h) (fun k hk => D5.out.block k (by have := HSA.out; omega)) GR.out.2.2.2.2.2.2.2.2.1, RepLis.on (fun _ h => h) (fun k hk => D5.out.block k (by have := HSA.out; omega)) GR.out.2.2.2.2.2.2.2.2.2⟩
      have HY : Hid (ruB { r with agg := ⟨#[115, 117, 109]⟩ } = false) := bad_sum r
      generalize { r with agg := ⟨#[115, 117, 109]⟩ } = y at *
      clear GR
      have GQ5 := Lib.hid (RepPr.on (S' := fun k => k < k8) (fun _ h => h) (fun k hk => D5.out.block k (by have := HSA.out; omega)) GQ.out)
      have XQ5 := Lib.hid (XQ.out.on D5.out); have B5 := Lib.hid (Below.step B3.out D5.out)
      have hs35 := D5.out.size
      have HS5 : Hid (∀ k, k < k8 → k < w5.heap.size) := fun k hk => by have := HSA.out; omega
      have hkrw : kr < w5.heap.size := A5.out.lt
      have HK58 : Hid (k8 < w5.heap.size ∧ kr ≠ k8 ∧ kr < w5.heap.size) := by show _ ∧ _; have := HSA.out; have := HKR.out; omega
      obtain ⟨g, cap, w6, hrun, hown, hb6⟩ := clone_run (K := kdRu) GQ5.out.2.2 HS5.out (by have := HKL.out; omega) (by have := HLN.out; omega) 24
      have HRUN := Lib.hid hrun
      have HB6 := Lib.hid hb6
      have XQ6 := Lib.hid (XQ5.out.on hb6)
      have XQ7 : Hid (BoxPr (w6.setCell ⟨k8, 2, none⟩ (.slice (some ⟨g, 0, none⟩) q.rules.length cap)) k8 (.slice h0 q.decls.length h1) (.slice h2 q.facts.length h3) (.slice (some ⟨g, 0, none⟩) q.rules.length cap)) := heap_setCell_same _ _ _ _ _ _ XQ6.out
      have A7 : Hid (BoxRu (w6.setCell ⟨k8, 2, none⟩ (.slice (some ⟨g, 0, none⟩) q.rules.length cap)) kr (.string r.label) (.string r.head) (.slice xa r.args.length xc) (.string ⟨#[115, 117, 109]⟩) (.int .i64 r.at') (.slice ya r.body.length yc)) := (Below.heap_setCell _ _ _ _ HK58.out.2.1).trans (A5.out.on hb6)
      have hkb := HK58.out
      have O7 : Hid (OwnK kdRu (fun k => k < k8) (w6.setCell ⟨k8, 2, none⟩ (.slice (some ⟨g, 0, none⟩) q.rules.length cap)) w5.heap.size q.rules (.slice (some ⟨g, 0, none⟩) q.rules.length cap)) := OwnK.on hown (fun _ h => h) (fun k hk => Below.heap_setCell _ _ _ _ (by simp; omega)) (fun k h1 _ _ => Below.heap_setCell _ _ _ _ (by simp; omega))
      have B57 : Hid (Below k8 w5 (w6.setCell ⟨k8, 2, none⟩ (.slice (some ⟨g, 0, none⟩) q.rules.length cap))) := (hb6.mono (show k8 ≤ w5.heap.size by omega)).setCell (p := ⟨k8, 2, none⟩) (Nat.le_refl _) _
      obtain ⟨p0, p1, p2⟩ := XQ5.out.cells
      obtain ⟨o0, o1, o2⟩ := XQ6.out.cells
      have z2 := frozen_of_row w6 k8 2 _ _ XQ6.out
      clear hrun hown hb6 hs35 hkrw hkb
      go_upto_region 22 with (at_builtin; refine wpList_append_by rfl _ _ _ rfl rfl rfl HRUN.out ?_)
      clear p0 p1 p2 o0 o1 o2 z2 HRUN XQ6 XQ5 A5
      generalize (w6.setCell ⟨k8, 2, none⟩ (.slice (some ⟨g, 0, none⟩) q.rules.length cap)) = w7 at *
      obtain ⟨cur, hbg, hh, hcs⟩ := OwnK.row O7.out (by have := HKL.out; omega)
      have hbd : k * 6 + 5 < cur.size := by have := HKL.out; omega
      obtain ⟨d0, t0⟩ := row_cell hh (k * 6) (by omega)
      obtain ⟨d1, t1⟩ := row_cell hh (k * 6 + 1) (by omega)
      obtain ⟨d2, t2⟩ := row_cell hh (k * 6 + 2) (by omega)
      obtain ⟨d3, t3⟩ := row_cell hh (k * 6 + 3) (by omega)
      obtain ⟨d4, t4⟩ := row_cell hh (k * 6 + 4) (by omega)
      obtain ⟨d5, t5⟩ := row_cell hh (k * 6 + 5) (by omega)
      have z0 := frozen_of_row w7 g (k * 6) _ _ hh
      have z1 := frozen_of_row w7 g (k * 6 + 1) _ _ hh
      have z2 := frozen_of_row w7 g (k * 6 + 2) _ _ hh
      have z3 := frozen_of_row w7 g (k * 6 + 3) _ _ hh
      have z4 := frozen_of_row w7 g (k * 6 + 4) _ _ hh
      have z5 := frozen_of_row w7 g (k * 6 + 5) _ _ hh
      have hk1 : (0 : Int) ≤ (k : Int) := Int.natCast_nonneg k
      have hk2 : (k : Int) < (q.rules.length : Int) := by have := HKL.out; omega
      obtain ⟨p0, p1, p2⟩ := XQ7.out.cells
      obtain ⟨a0, a1, a2, a3, a4, a5⟩ := A7.out.cells
      have hkb := HK58.out
      have GY7 := RepRu.on (S' := fun k => k < k8) (fun _ h => h) (fun k hk => B57.out.block k hk) GY.out
      have O8 := Lib.hid (OwnK.put O7.out (fun m hm => by omega) HKL.out GY7)
      have A8 : Hid (BoxRu (put6 w7 g (k * 6) (.string r.label) (.string r.head) (.slice xa r.args.length xc) (.string ⟨#[115, 117, 109]⟩) (.int .i64 r.at') (.slice ya r.body.length yc)) kr (.string r.label) (.string r.head) (.slice xa r.args.length xc) (.string ⟨#[115, 117, 109]⟩) (.int .i64 r.at') (.slice ya r.body.length yc)) := (put6_other _ _ _ _ _ _ _ _ _ kr (by omega)).trans A7.out
      have XQ8 : Hid (BoxPr (put6 w7 g (k * 6) (.string r.label) (.string r.head) (.slice xa r.args.length xc) (.string ⟨#[115, 117, 109]⟩) (.int .i64 r.at') (.slice ya r.body.length yc)) k8 (.slice h0 q.decls.length h1) (.slice h2 q.facts.length h3) (.slice (some ⟨g, 0, none⟩) q.rules.length cap)) := (put6_other _ _ _ _ _ _ _ _ _ k8 (by omega)).trans XQ7.out
      have B78 : Hid (Below k8 w5 (put6 w7 g (k * 6) (.string r.label) (.string r.head) (.slice xa r.args.length xc) (.string ⟨#[115, 117, 109]⟩) (.int .i64 r.at') (.slice ya r.body.length yc))) := put6_below B57.out (by omega) _ _ _ _ _ _ _
      unfold put6 at O8 A8 XQ8 B78
      clear hkb GY7 hh hcs hbd hbg
      go_upto_region 23 with fail
      clear hk1 hk2 p0 p1 p2 a0 a1 a2 a3 a4 a5 t0 z0 t1 z1 t2 z2 t3 z3 t4 z4 t5 z5 O7 A7 XQ7 B57
      generalize ((((((w7.setCell ⟨g, k * 6, none⟩ (.string r.label)).setCell ⟨g, k * 6 + 1, none⟩ (.string r.head)).setCell ⟨g, k * 6 + 2, none⟩ (.slice xa r.args.length xc)).setCell ⟨g, k * 6 + 3, none⟩ (.string ⟨#[115, 117, 109]⟩)).setCell ⟨g, k * 6 + 4, none⟩ (.int .i64 r.at')).setCell ⟨g, k * 6 + 5, none⟩ (.slice ya r.body.length yc)) = w8 at *
      have HQF := Lib.hid (bad_set HKL.out HY.out)
      have B8 := Lib.hid (Below.trans (B5.out) (B78.out.mono HW2.out))
      have R8 : Hid (RepPr (fun m => m < w8.heap.size) w8 ⟨q.decls, q.facts, q.rules.set k y⟩ (.slice h0 q.decls.length h1) (.slice h2 q.facts.length h3) (.slice (some ⟨g, 0, none⟩) q.rules.length cap)) := by
        have hs := B78.out.size
        have hf : ∀ m, m < k8 → m < w8.heap.size := fun m hm => by have := HK58.out; omega
        exact ⟨RepDes.on hf (fun m hm => B78.out.block m hm) GQ5.out.1, RepFas.on hf (fun m hm => B78.out.block m hm) GQ5.out.2.1, OwnK.slg O8.out (fun m hm => hf m hm) (fun m _ h => h) (by rw [List.length_set]; have := HLN.out; omega)⟩
      have Y8 : Hid (RepRu (fun m => m < w8.heap.size) w8 y (.string r.label) (.string r.head) (.slice xa r.args.length xc) (.string ⟨#[115, 117, 109]⟩) (.int .i64 r.at') (.slice ya r.body.length yc)) := RepRu.on (fun m hm => by have := B78.out.size; have := HK58.out; omega) (fun m hm => B78.out.block m hm) GY.out
      clear O8 B78 GY GQ5
      obtain ⟨p0, p1, p2⟩ := XQ8.out.cells
      go_wp2_with fail
      refine (prRight_any _ (fun m => m < w8.heap.size) w8 _ _ _ (fun _ h => h) R8.out).mono ?_
      rw [HQF.out]
      rintro e w9 ⟨rfl, hb⟩
      have X9 := Lib.hid (XQ8.out.on hb); have A9 := Lib.hid (A8.out.on hb); have B9 := Lib.hid (Below.step B8.out hb); have L9 := Lib.hid hb
      clear hb p0 p1 p2
      obtain ⟨p0, p1, p2⟩ := X9.out.cells
      go_wp2_with fail
      refine (prPr_any _ (fun m => m < w8.heap.size) w9 _ _ _ (fun m hm => Nat.lt_of_lt_of_le hm L9.out.size) (Nat.lt_of_lt_of_le HG.out B9.out.size) (HT.out.below HG.out B9.out) (RepPr.on (fun _ h => h) (fun m hm => L9.out.block m hm) R8.out) (fun h => showPr_fits h)).mono ?_
      rw [told_false HQF.out]
      rintro e w10 ⟨rfl, hb⟩
      have A10 := Lib.hid (A9.out.on hb); have B10 := Lib.hid (Below.step B9.out hb); have L10 := Lib.hid (Below.step L9.out hb)
      clear hb p0 p1 p2
      obtain ⟨a0, a1, a2, a3, a4, a5⟩ := A10.out.cells
      go_wp2_with fail
      refine (prRu_any y (fun m => m < w8.heap.size) w10 _ _ _ _ _ _ (fun m hm => Nat.lt_of_lt_of_le hm L10.out.size) (Nat.lt_of_lt_of_le HG.out B10.out.size) (HT.out.below HG.out B10.out) (RepRu.on (fun _ h => h) (fun m hm => L10.out.block m hm) Y8.out) (fun h => showRu_fits h)).mono ?_
      rw [told_false HY.out]
      rintro e w11 ⟨rfl, hb⟩
      have B11 := Lib.hid (Below.step B10.out hb)
      clear hb a0 a1 a2 a3 a4 a5
      go_wp2_with fail
      go_ret
      exact ⟨rfl, B11.out⟩
    · rw [hj]
      clear hj
      obtain ⟨p0, p1, p2, p3, p4, p5⟩ := XR.out.cells
      have z03 := frozen_of_row w4 kr 3 _ _ XR.out
      have A0 : Hid (BoxRu (w4.setCell ⟨kr, 3, none⟩ (.string ⟨#[109, 105, 110]⟩)) kr (.string r.label) (.string r.head) (.slice xa r.args.length xc) (.string ⟨#[109, 105, 110]⟩) (.int .i64 r.at') (.slice ya r.body.length yc)) := heap_setCell_same _ _ _ _ _ _ XR.out
      obtain ⟨a00, a01, a02, a03, a04, a05⟩ := A0.out.cells
      have z14 := frozen_of_row (w4.setCell ⟨kr, 3, none⟩ (.string ⟨#[109, 105, 110]⟩)) kr 4 _ _ A0.out
      have A1 : Hid (BoxRu ((w4.setCell ⟨kr, 3, none⟩ (.string ⟨#[109, 105, 110]⟩)).setCell ⟨kr, 4, none⟩ (.int .i64 (r.args.length : Int))) kr (.string r.label) (.string r.head) (.slice xa r.args.length xc) (.string ⟨#[109, 105, 110]⟩) (.int .i64 (r.args.length : Int)) (.slice ya r.body.length yc)) := heap_setCell_same _ _ _ _ _ _ A0.out
      have D5 : Hid (Below w3.heap.size w3 ((w4.setCell ⟨kr, 3, none⟩ (.string ⟨#[109, 105, 110]⟩)).setCell ⟨kr, 4, none⟩ (.int .i64 (r.args.length : Int)))) := (Below.setCell (p := ⟨kr, 4, none⟩) (Below.setCell (p := ⟨kr, 3, none⟩) D4.out (by have := HKR.out; simp; omega) (.string ⟨#[109, 105, 110]⟩)) (by have := HKR.out; simp; omega) (.int .i64 (r.args.length : Int)))
      go_upto_region 21 with fail
      clear p0 p1 p2 p3 p4 p5 z03 z14 a00 a01 a02 a03 a04 a05
      have A5 := A1
      clear A0 A1
      generalize ((w4.setCell ⟨kr, 3, none⟩ (.string ⟨#[109, 105, 110]⟩)).setCell ⟨kr, 4, none⟩ (.int .i64 (r.args.length : Int))) = w5 at *
      have hal : I64 (r.args.length : Int) := by have := SlG.bytes GR.out.2.2.2.2.2.2.2.2.1; exact ⟨by omega, by omega⟩
      have GY : Hid (RepRu (fun k => k < k8) w5 { r with agg := ⟨#[109, 105, 110]⟩, at' := (r.args.length : Int) } (.string r.label) (.string r.head) (.slice xa r.args.length xc) (.string ⟨#[109, 105, 110]⟩) (.int .i64 (r.args.length : Int)) (.slice ya r.body.length yc)) := ⟨rfl, rfl, rfl, rfl, GR.out.2.2.2.2.1, GR.out.2.2.2.2.2.1, (by show (⟨#[109, 105, 110]⟩ : ByteArray).size ≤ maxLen; decide), hal, RepMs.on (fun _ h => h) (fun k hk => D5.out.block k (by have := HSA.out; omega)) GR.out.2.2.2.2.2.2.2.2.1, RepLis.on (fun _ h => h) (fun k hk => D5.out.block k (by have := HSA.out; omega)) GR.out.2.2.2.2.2.2.2.2.2⟩
      have HY : Hid (ruB { r with agg := ⟨#[109, 105, 110]⟩, at' := (r.args.length : Int) } = false) := bad_most r
      generalize { r with agg := ⟨#[109, 105, 110]⟩, at' := (r.args.length : Int) } = y at *
      clear GR hal
      have GQ5 := Lib.hid (RepPr.on (S' := fun k => k < k8) (fun _ h => h) (fun k hk => D5.out.block k (by have := HSA.out; omega)) GQ.out)
      have XQ5 := Lib.hid (XQ.out.on D5.out); have B5 := Lib.hid (Below.step B3.out D5.out)
      have hs35 := D5.out.size
      have HS5 : Hid (∀ k, k < k8 → k < w5.heap.size) := fun k hk => by have := HSA.out; omega
      have hkrw : kr < w5.heap.size := A5.out.lt
      have HK58 : Hid (k8 < w5.heap.size ∧ kr ≠ k8 ∧ kr < w5.heap.size) := by show _ ∧ _; have := HSA.out; have := HKR.out; omega
      obtain ⟨g, cap, w6, hrun, hown, hb6⟩ := clone_run (K := kdRu) GQ5.out.2.2 HS5.out (by have := HKL.out; omega) (by have := HLN.out; omega) 24
      have HRUN := Lib.hid hrun
      have HB6 := Lib.hid hb6
      have XQ6 := Lib.hid (XQ5.out.on hb6)
      have XQ7 : Hid (BoxPr (w6.setCell ⟨k8, 2, none⟩ (.slice (some ⟨g, 0, none⟩) q.rules.length cap)) k8 (.slice h0 q.decls.length h1) (.slice h2 q.facts.length h3) (.slice (some ⟨g, 0, none⟩) q.rules.length cap)) := heap_setCell_same _ _ _ _ _ _ XQ6.out
      have A7 : Hid (BoxRu (w6.setCell ⟨k8, 2, none⟩ (.slice (some ⟨g, 0, none⟩) q.rules.length cap)) kr (.string r.label) (.string r.head) (.slice xa r.args.length xc) (.string ⟨#[109, 105, 110]⟩) (.int .i64 (r.args.length : Int)) (.slice ya r.body.length yc)) := (Below.heap_setCell _ _ _ _ HK58.out.2.1).trans (A5.out.on hb6)
      have hkb := HK58.out
      have O7 : Hid (OwnK kdRu (fun k => k < k8) (w6.setCell ⟨k8, 2, none⟩ (.slice (some ⟨g, 0, none⟩) q.rules.length cap)) w5.heap.size q.rules (.slice (some ⟨g, 0, none⟩) q.rules.length cap)) := OwnK.on hown (fun _ h => h) (fun k hk => Below.heap_setCell _ _ _ _ (by simp; omega)) (fun k h1 _ _ => Below.heap_setCell _ _ _ _ (by simp; omega))
      have B57 : Hid (Below k8 w5 (w6.setCell ⟨k8, 2, none⟩ (.slice (some ⟨g, 0, none⟩) q.rules.length cap))) := (hb6.mono (show k8 ≤ w5.heap.size by omega)).setCell (p := ⟨k8, 2, none⟩) (Nat.le_refl _) _
      obtain ⟨p0, p1, p2⟩ := XQ5.out.cells
      obtain ⟨o0, o1, o2⟩ := XQ6.out.cells
      have z2 := frozen_of_row w6 k8 2 _ _ XQ6.out
      clear hrun hown hb6 hs35 hkrw hkb
      go_upto_region 22 with (at_builtin; refine wpList_append_by rfl _ _ _ rfl rfl rfl HRUN.out ?_)
      clear p0 p1 p2 o0 o1 o2 z2 HRUN XQ6 XQ5 A5
      generalize (w6.setCell ⟨k8, 2, none⟩ (.slice (some ⟨g, 0, none⟩) q.rules.length cap)) = w7 at *
      obtain ⟨cur, hbg, hh, hcs⟩ := OwnK.row O7.out (by have := HKL.out; omega)
      have hbd : k * 6 + 5 < cur.size := by have := HKL.out; omega
      obtain ⟨d0, t0⟩ := row_cell hh (k * 6) (by omega)
      obtain ⟨d1, t1⟩ := row_cell hh (k * 6 + 1) (by omega)
      obtain ⟨d2, t2⟩ := row_cell hh (k * 6 + 2) (by omega)
      obtain ⟨d3, t3⟩ := row_cell hh (k * 6 + 3) (by omega)
      obtain ⟨d4, t4⟩ := row_cell hh (k * 6 + 4) (by omega)
      obtain ⟨d5, t5⟩ := row_cell hh (k * 6 + 5) (by omega)
      have z0 := frozen_of_row w7 g (k * 6) _ _ hh
      have z1 := frozen_of_row w7 g (k * 6 + 1) _ _ hh
      have z2 := frozen_of_row w7 g (k * 6 + 2) _ _ hh
      have z3 := frozen_of_row w7 g (k * 6 + 3) _ _ hh
      have z4 := frozen_of_row w7 g (k * 6 + 4) _ _ hh
      have z5 := frozen_of_row w7 g (k * 6 + 5) _ _ hh
      have hk1 : (0 : Int) ≤ (k : Int) := Int.natCast_nonneg k
      have hk2 : (k : Int) < (q.rules.length : Int) := by have := HKL.out; omega
      obtain ⟨p0, p1, p2⟩ := XQ7.out.cells
      obtain ⟨a0, a1, a2, a3, a4, a5⟩ := A7.out.cells
      have hkb := HK58.out
      have GY7 := RepRu.on (S' := fun k => k < k8) (fun _ h => h) (fun k hk => B57.out.block k hk) GY.out
      have O8 := Lib.hid (OwnK.put O7.out (fun m hm => by omega) HKL.out GY7)
      have A8 : Hid (BoxRu (put6 w7 g (k * 6) (.string r.label) (.string r.head) (.slice xa r.args.length xc) (.string ⟨#[109, 105, 110]⟩) (.int .i64 (r.args.length : Int)) (.slice ya r.body.length yc)) kr (.string r.label) (.string r.head) (.slice xa r.args.length xc) (.string ⟨#[109, 105, 110]⟩) (.int .i64 (r.args.length : Int)) (.slice ya r.body.length yc)) := (put6_other _ _ _ _ _ _ _ _ _ kr (by omega)).trans A7.out
      have XQ8 : Hid (BoxPr (put6 w7 g (k * 6) (.string r.label) (.string r.head) (.slice xa r.args.length xc) (.string ⟨#[109, 105, 110]⟩) (.int .i64 (r.args.length : Int)) (.slice ya r.body.length yc)) k8 (.slice h0 q.decls.length h1) (.slice h2 q.facts.length h3) (.slice (some ⟨g, 0, none⟩) q.rules.length cap)) := (put6_other _ _ _ _ _ _ _ _ _ k8 (by omega)).trans XQ7.out
      have B78 : Hid (Below k8 w5 (put6 w7 g (k * 6) (.string r.label) (.string r.head) (.slice xa r.args.length xc) (.string ⟨#[109, 105, 110]⟩) (.int .i64 (r.args.length : Int)) (.slice ya r.body.length yc))) := put6_below B57.out (by omega) _ _ _ _ _ _ _
      unfold put6 at O8 A8 XQ8 B78
      clear hkb GY7 hh hcs hbd hbg
      go_upto_region 23 with fail
      clear hk1 hk2 p0 p1 p2 a0 a1 a2 a3 a4 a5 t0 z0 t1 z1 t2 z2 t3 z3 t4 z4 t5 z5 O7 A7 XQ7 B57
      generalize ((((((w7.setCell ⟨g, k * 6, none⟩ (.string r.label)).setCell ⟨g, k * 6 + 1, none⟩ (.string r.head)).setCell ⟨g, k * 6 + 2, none⟩ (.slice xa r.args.length xc)).setCell ⟨g, k * 6 + 3, none⟩ (.string ⟨#[109, 105, 110]⟩)).setCell ⟨g, k * 6 + 4, none⟩ (.int .i64 (r.args.length : Int))).setCell ⟨g, k * 6 + 5, none⟩ (.slice ya r.body.length yc)) = w8 at *
      have HQF := Lib.hid (bad_set HKL.out HY.out)
      have B8 := Lib.hid (Below.trans (B5.out) (B78.out.mono HW2.out))
      have R8 : Hid (RepPr (fun m => m < w8.heap.size) w8 ⟨q.decls, q.facts, q.rules.set k y⟩ (.slice h0 q.decls.length h1) (.slice h2 q.facts.length h3) (.slice (some ⟨g, 0, none⟩) q.rules.length cap)) := by
        have hs := B78.out.size
        have hf : ∀ m, m < k8 → m < w8.heap.size := fun m hm => by have := HK58.out; omega
        exact ⟨RepDes.on hf (fun m hm => B78.out.block m hm) GQ5.out.1, RepFas.on hf (fun m hm => B78.out.block m hm) GQ5.out.2.1, OwnK.slg O8.out (fun m hm => hf m hm) (fun m _ h => h) (by rw [List.length_set]; have := HLN.out; omega)⟩
      have Y8 : Hid (RepRu (fun m => m < w8.heap.size) w8 y (.string r.label) (.string r.head) (.slice xa r.args.length xc) (.string ⟨#[109, 105, 110]⟩) (.int .i64 (r.args.length : Int)) (.slice ya r.body.length yc)) := RepRu.on (fun m hm => by have := B78.out.size; have := HK58.out; omega) (fun m hm => B78.out.block m hm) GY.out
      clear O8 B78 GY GQ5
      obtain ⟨p0, p1, p2⟩ := XQ8.out.cells
      go_wp2_with fail
      refine (prRight_any _ (fun m => m < w8.heap.size) w8 _ _ _ (fun _ h => h) R8.out).mono ?_
      rw [HQF.out]
      rintro e w9 ⟨rfl, hb⟩
      have X9 := Lib.hid (XQ8.out.on hb); have A9 := Lib.hid (A8.out.on hb); have B9 := Lib.hid (Below.step B8.out hb); have L9 := Lib.hid hb
      clear hb p0 p1 p2
      obtain ⟨p0, p1, p2⟩ := X9.out.cells
      go_wp2_with fail
      refine (prPr_any _ (fun m => m < w8.heap.size) w9 _ _ _ (fun m hm => Nat.lt_of_lt_of_le hm L9.out.size) (Nat.lt_of_lt_of_le HG.out B9.out.size) (HT.out.below HG.out B9.out) (RepPr.on (fun _ h => h) (fun m hm => L9.out.block m hm) R8.out) (fun h => showPr_fits h)).mono ?_
      rw [told_false HQF.out]
      rintro e w10 ⟨rfl, hb⟩
      have A10 := Lib.hid (A9.out.on hb); have B10 := Lib.hid (Below.step B9.out hb); have L10 := Lib.hid (Below.step L9.out hb)
      clear hb p0 p1 p2
      obtain ⟨a0, a1, a2, a3, a4, a5⟩ := A10.out.cells
      go_wp2_with fail
      refine (prRu_any y (fun m => m < w8.heap.size) w10 _ _ _ _ _ _ (fun m hm => Nat.lt_of_lt_of_le hm L10.out.size) (Nat.lt_of_lt_of_le HG.out B10.out.size) (HT.out.below HG.out B10.out) (RepRu.on (fun _ h => h) (fun m hm => L10.out.block m hm) Y8.out) (fun h => showRu_fits h)).mono ?_
      rw [told_false HY.out]
      rintro e w11 ⟨rfl, hb⟩
      have B11 := Lib.hid (Below.step B10.out hb)
      clear hb a0 a1 a2 a3 a4 a5
      go_wp2_with fail
      go_ret
      exact ⟨rfl, B11.out⟩
    · rw [hj]
      clear hj
      obtain ⟨p0, p1, p2, p3, p4, p5⟩ := XR.out.cells
      have z03 := frozen_of_row w4 kr 3 _ _ XR.out
      have A0 : Hid (BoxRu (w4.setCell ⟨kr, 3, none⟩ (.string ⟨#[109, 105, 110]⟩)) kr (.string r.label) (.string r.head) (.slice xa r.args.length xc) (.string ⟨#[109, 105, 110]⟩) (.int .i64 r.at') (.slice ya r.body.length yc)) := heap_setCell_same _ _ _ _ _ _ XR.out
      obtain ⟨a00, a01, a02, a03, a04, a05⟩ := A0.out.cells
      have z14 := frozen_of_row (w4.setCell ⟨kr, 3, none⟩ (.string ⟨#[109, 105, 110]⟩)) kr 4 _ _ A0.out
      have A1 : Hid (BoxRu ((w4.setCell ⟨kr, 3, none⟩ (.string ⟨#[109, 105, 110]⟩)).setCell ⟨kr, 4, none⟩ (.int .i64 0)) kr (.string r.label) (.string r.head) (.slice xa r.args.length xc) (.string ⟨#[109, 105, 110]⟩) (.int .i64 0) (.slice ya r.body.length yc)) := heap_setCell_same _ _ _ _ _ _ A0.out
      have D5 : Hid (Below w3.heap.size w3 ((w4.setCell ⟨kr, 3, none⟩ (.string ⟨#[109, 105, 110]⟩)).setCell ⟨kr, 4, none⟩ (.int .i64 0))) := (Below.setCell (p := ⟨kr, 4, none⟩) (Below.setCell (p := ⟨kr, 3, none⟩) D4.out (by have := HKR.out; simp; omega) (.string ⟨#[109, 105, 110]⟩)) (by have := HKR.out; simp; omega) (.int .i64 0))
      go_upto_region 21 with fail
      clear p0 p1 p2 p3 p4 p5 z03 z14 a00 a01 a02 a03 a04 a05
      have A5 := A1
      clear A0 A1
      generalize ((w4.setCell ⟨kr, 3, none⟩ (.string ⟨#[109, 105, 110]⟩)).setCell ⟨kr, 4, none⟩ (.int .i64 0)) = w5 at *
      have GY : Hid (RepRu (fun k => k < k8) w5 { r with agg := ⟨#[109, 105, 110]⟩, at' := 0 } (.string r.label) (.string r.head) (.slice xa r.args.length xc) (.string ⟨#[109, 105, 110]⟩) (.int .i64 0) (.slice ya r.body.length yc)) := ⟨rfl, rfl, rfl, rfl, GR.out.2.2.2.2.1, GR.out.2.2.2.2.2.1, (by show (⟨#[109, 105, 110]⟩ : ByteArray).size ≤ maxLen; decide), small64 (n := 0) (by omega), RepMs.on (fun _ h => h) (fun k hk => D5.out.block k (by have := HSA.out; omega)) GR.out.2.2.2.2.2.2.2.2.1, RepLis.on (fun _ h => h) (fun k hk => D5.out.block k (by have := HSA.out; omega)) GR.out.2.2.2.2.2.2.2.2.2⟩
      have HY : Hid (ruB { r with agg := ⟨#[109, 105, 110]⟩, at' := 0 } = false) := bad_least r
      generalize { r with agg := ⟨#[109, 105, 110]⟩, at' := 0 } = y at *
      clear GR
      have GQ5 := Lib.hid (RepPr.on (S' := fun k => k < k8) (fun _ h => h) (fun k hk => D5.out.block k (by have := HSA.out; omega)) GQ.out)
      have XQ5 := Lib.hid (XQ.out.on D5.out); have B5 := Lib.hid (Below.step B3.out D5.out)
      have hs35 := D5.out.size
      have HS5 : Hid (∀ k, k < k8 → k < w5.heap.size) := fun k hk => by have := HSA.out; omega
      have hkrw : kr < w5.heap.size := A5.out.lt
      have HK58 : Hid (k8 < w5.heap.size ∧ kr ≠ k8 ∧ kr < w5.heap.size) := by show _ ∧ _; have := HSA.out; have := HKR.out; omega
      obtain ⟨g, cap, w6, hrun, hown, hb6⟩ := clone_run (K := kdRu) GQ5.out.2.2 HS5.out (by have := HKL.out; omega) (by have := HLN.out; omega) 24
      have HRUN := Lib.hid hrun
      have HB6 := Lib.hid hb6
      have XQ6 := Lib.hid (XQ5.out.on hb6)
      have XQ7 : Hid (BoxPr (w6.setCell ⟨k8, 2, none⟩ (.slice (some ⟨g, 0, none⟩) q.rules.length cap)) k8 (.slice h0 q.decls.length h1) (.slice h2 q.facts.length h3) (.slice (some ⟨g, 0, none⟩) q.rules.length cap)) := heap_setCell_same _ _ _ _ _ _ XQ6.out
      have A7 : Hid (BoxRu (w6.setCell ⟨k8, 2, none⟩ (.slice (some ⟨g, 0, none⟩) q.rules.length cap)) kr (.string r.label) (.string r.head) (.slice xa r.args.length xc) (.string ⟨#[109, 105, 110]⟩) (.int .i64 0) (.slice ya r.body.length yc)) := (Below.heap_setCell _ _ _ _ HK58.out.2.1).trans (A5.out.on hb6)
      have hkb := HK58.out
      have O7 : Hid (OwnK kdRu (fun k => k < k8) (w6.setCell ⟨k8, 2, none⟩ (.slice (some ⟨g, 0, none⟩) q.rules.length cap)) w5.heap.size q.rules (.slice (some ⟨g, 0, none⟩) q.rules.length cap)) := OwnK.on hown (fun _ h => h) (fun k hk => Below.heap_setCell _ _ _ _ (by simp; omega)) (fun k h1 _ _ => Below.heap_setCell _ _ _ _ (by simp; omega))
      have B57 : Hid (Below k8 w5 (w6.setCell ⟨k8, 2, none⟩ (.slice (some ⟨g, 0, none⟩) q.rules.length cap))) := (hb6.mono (show k8 ≤ w5.heap.size by omega)).setCell (p := ⟨k8, 2, none⟩) (Nat.le_refl _) _
      obtain ⟨p0, p1, p2⟩ := XQ5.out.cells
      obtain ⟨o0, o1, o2⟩ := XQ6.out.cells
      have z2 := frozen_of_row w6 k8 2 _ _ XQ6.out
      clear hrun hown hb6 hs35 hkrw hkb
      go_upto_region 22 with (at_builtin; refine wpList_append_by rfl _ _ _ rfl rfl rfl HRUN.out ?_)
      clear p0 p1 p2 o0 o1 o2 z2 HRUN XQ6 XQ5 A5
      generalize (w6.setCell ⟨k8, 2, none⟩ (.slice (some ⟨g, 0, none⟩) q.rules.length cap)) = w7 at *
      obtain ⟨cur, hbg, hh, hcs⟩ := OwnK.row O7.out (by have := HKL.out; omega)
      have hbd : k * 6 + 5 < cur.size := by have := HKL.out; omega
      obtain ⟨d0, t0⟩ := row_cell hh (k * 6) (by omega)
      obtain ⟨d1, t1⟩ := row_cell hh (k * 6 + 1) (by omega)
      obtain ⟨d2, t2⟩ := row_cell hh (k * 6 + 2) (by omega)
      obtain ⟨d3, t3⟩ := row_cell hh (k * 6 + 3) (by omega)
      obtain ⟨d4, t4⟩ := row_cell hh (k * 6 + 4) (by omega)
      obtain ⟨d5, t5⟩ := row_cell hh (k * 6 + 5) (by omega)
      have z0 := frozen_of_row w7 g (k * 6) _ _ hh
      have z1 := frozen_of_row w7 g (k * 6 + 1) _ _ hh
      have z2 := frozen_of_row w7 g (k * 6 + 2) _ _ hh
      have z3 := frozen_of_row w7 g (k * 6 + 3) _ _ hh
      have z4 := frozen_of_row w7 g (k * 6 + 4) _ _ hh
      have z5 := frozen_of_row w7 g (k * 6 + 5) _ _ hh
      have hk1 : (0 : Int) ≤ (k : Int) := Int.natCast_nonneg k
      have hk2 : (k : Int) < (q.rules.length : Int) := by have := HKL.out; omega
      obtain ⟨p0, p1, p2⟩ := XQ7.out.cells
      obtain ⟨a0, a1, a2, a3, a4, a5⟩ := A7.out.cells
      have hkb := HK58.out
      have GY7 := RepRu.on (S' := fun k => k < k8) (fun _ h => h) (fun k hk => B57.out.block k hk) GY.out
      have O8 := Lib.hid (OwnK.put O7.out (fun m hm => by omega) HKL.out GY7)
      have A8 : Hid (BoxRu (put6 w7 g (k * 6) (.string r.label) (.string r.head) (.slice xa r.args.length xc) (.string ⟨#[109, 105, 110]⟩) (.int .i64 0) (.slice ya r.body.length yc)) kr (.string r.label) (.string r.head) (.slice xa r.args.length xc) (.string ⟨#[109, 105, 110]⟩) (.int .i64 0) (.slice ya r.body.length yc)) := (put6_other _ _ _ _ _ _ _ _ _ kr (by omega)).trans A7.out
      have XQ8 : Hid (BoxPr (put6 w7 g (k * 6) (.string r.label) (.string r.head) (.slice xa r.args.length xc) (.string ⟨#[109, 105, 110]⟩) (.int .i64 0) (.slice ya r.body.length yc)) k8 (.slice h0 q.decls.length h1) (.slice h2 q.facts.length h3) (.slice (some ⟨g, 0, none⟩) q.rules.length cap)) := (put6_other _ _ _ _ _ _ _ _ _ k8 (by omega)).trans XQ7.out
      have B78 : Hid (Below k8 w5 (put6 w7 g (k * 6) (.string r.label) (.string r.head) (.slice xa r.args.length xc) (.string ⟨#[109, 105, 110]⟩) (.int .i64 0) (.slice ya r.body.length yc))) := put6_below B57.out (by omega) _ _ _ _ _ _ _
      unfold put6 at O8 A8 XQ8 B78
      clear hkb GY7 hh hcs hbd hbg
      go_upto_region 23 with fail
      clear hk1 hk2 p0 p1 p2 a0 a1 a2 a3 a4 a5 t0 z0 t1 z1 t2 z2 t3 z3 t4 z4 t5 z5 O7 A7 XQ7 B57
      generalize ((((((w7.setCell ⟨g, k * 6, none⟩ (.string r.label)).setCell ⟨g, k * 6 + 1, none⟩ (.string r.head)).setCell ⟨g, k * 6 + 2, none⟩ (.slice xa r.args.length xc)).setCell ⟨g, k * 6 + 3, none⟩ (.string ⟨#[109, 105, 110]⟩)).setCell ⟨g, k * 6 + 4, none⟩ (.int .i64 0)).setCell ⟨g, k * 6 + 5, none⟩ (.slice ya r.body.length yc)) = w8 at *
      have HQF := Lib.hid (bad_set HKL.out HY.out)
      have B8 := Lib.hid (Below.trans (B5.out) (B78.out.mono HW2.out))
      have R8 : Hid (RepPr (fun m => m < w8.heap.size) w8 ⟨q.decls, q.facts, q.rules.set k y⟩ (.slice h0 q.decls.length h1) (.slice h2 q.facts.length h3) (.slice (some ⟨g, 0, none⟩) q.rules.length cap)) := by
        have hs := B78.out.size
        have hf : ∀ m, m < k8 → m < w8.heap.size := fun m hm => by have := HK58.out; omega
        exact ⟨RepDes.on hf (fun m hm => B78.out.block m hm) GQ5.out.1, RepFas.on hf (fun m hm => B78.out.block m hm) GQ5.out.2.1, OwnK.slg O8.out (fun m hm => hf m hm) (fun m _ h => h) (by rw [List.length_set]; have := HLN.out; omega)⟩
      have Y8 : Hid (RepRu (fun m => m < w8.heap.size) w8 y (.string r.label) (.string r.head) (.slice xa r.args.length xc) (.string ⟨#[109, 105, 110]⟩) (.int .i64 0) (.slice ya r.body.length yc)) := RepRu.on (fun m hm => by have := B78.out.size; have := HK58.out; omega) (fun m hm => B78.out.block m hm) GY.out
      clear O8 B78 GY GQ5
      obtain ⟨p0, p1, p2⟩ := XQ8.out.cells
      go_wp2_with fail
      refine (prRight_any _ (fun m => m < w8.heap.size) w8 _ _ _ (fun _ h => h) R8.out).mono ?_
      rw [HQF.out]
      rintro e w9 ⟨rfl, hb⟩
      have X9 := Lib.hid (XQ8.out.on hb); have A9 := Lib.hid (A8.out.on hb); have B9 := Lib.hid (Below.step B8.out hb); have L9 := Lib.hid hb
      clear hb p0 p1 p2
      obtain ⟨p0, p1, p2⟩ := X9.out.cells
      go_wp2_with fail
      refine (prPr_any _ (fun m => m < w8.heap.size) w9 _ _ _ (fun m hm => Nat.lt_of_lt_of_le hm L9.out.size) (Nat.lt_of_lt_of_le HG.out B9.out.size) (HT.out.below HG.out B9.out) (RepPr.on (fun _ h => h) (fun m hm => L9.out.block m hm) R8.out) (fun h => showPr_fits h)).mono ?_
      rw [told_false HQF.out]
      rintro e w10 ⟨rfl, hb⟩
      have A10 := Lib.hid (A9.out.on hb); have B10 := Lib.hid (Below.step B9.out hb); have L10 := Lib.hid (Below.step L9.out hb)
      clear hb p0 p1 p2
      obtain ⟨a0, a1, a2, a3, a4, a5⟩ := A10.out.cells
      go_wp2_with fail
      refine (prRu_any y (fun m => m < w8.heap.size) w10 _ _ _ _ _ _ (fun m hm => Nat.lt_of_lt_of_le hm L10.out.size) (Nat.lt_of_lt_of_le HG.out B10.out.size) (HT.out.below HG.out B10.out) (RepRu.on (fun _ h => h) (fun m hm => L10.out.block m hm) Y8.out) (fun h => showRu_fits h)).mono ?_
      rw [told_false HY.out]
      rintro e w11 ⟨rfl, hb⟩
      have B11 := Lib.hid (Below.step B10.out hb)
      clear hb a0 a1 a2 a3 a4 a5
      go_wp2_with fail
      go_ret
      exact ⟨rfl, B11.out⟩
    · rw [hj]
      clear hj
      obtain ⟨p0, p1, p2, p3, p4, p5⟩ := XR.out.cells
      have z05 := frozen_of_row w4 kr 5 _ _ XR.out
      have A0 : Hid (BoxRu (w4.setCell ⟨kr, 5, none⟩ (.slice none 0 0)) kr (.string r.label) (.string r.head) (.slice xa r.args.length xc) (.string r.agg) (.int .i64 r.at') (.slice none 0 0)) := heap_setCell_same _ _ _ _ _ _ XR.out
      have D5 : Hid (Below w3.heap.size w3 (w4.setCell ⟨kr, 5, none⟩ (.slice none 0 0))) := (Below.setCell (p := ⟨kr, 5, none⟩) D4.out (by have := HKR.out; simp; omega) (.slice none 0 0))
      go_upto_region 21 with fail
      clear p0 p1 p2 p3 p4 p5 z05
      have A5 := A0
      clear A0
      generalize (w4.setCell ⟨kr, 5, none⟩ (.slice none 0 0)) = w5 at *
      have GY : Hid (RepRu (fun k => k < k8) w5 { r with body := [] } (.string r.label) (.string r.head) (.slice xa r.args.length xc) (.string r.agg) (.int .i64 r.at') (.slice none 0 0)) := ⟨rfl, rfl, rfl, rfl, GR.out.2.2.2.2.1, GR.out.2.2.2.2.2.1, GR.out.2.2.2.2.2.2.1, GR.out.2.2.2.2.2.2.2.1, RepMs.on (fun _ h => h) (fun k hk => D5.out.block k (by have := HSA.out; omega)) GR.out.2.2.2.2.2.2.2.2.1, slg_nil⟩
      have HY : Hid (ruB { r with body := [] } = false) := bad_body (r := { r with body := [] }) rfl
      generalize { r with body := [] } = y at *
      clear GR
      have GQ5 := Lib.hid (RepPr.on (S' := fun k => k < k8) (fun _ h => h) (fun k hk => D5.out.block k (by have := HSA.out; omega)) GQ.out)
      have XQ5 := Lib.hid (XQ.out.on D5.out); have B5 := Lib.hid (Below.step B3.out D5.out)
      have hs35 := D5.out.size
      have HS5 : Hid (∀ k, k < k8 → k < w5.heap.size) := fun k hk => by have := HSA.out; omega
      have hkrw : kr < w5.heap.size := A5.out.lt
      have HK58 : Hid (k8 < w5.heap.size ∧ kr ≠ k8 ∧ kr < w5.heap.size) := by show _ ∧ _; have := HSA.out; have := HKR.out; omega
      obtain ⟨g, cap, w6, hrun, hown, hb6⟩ := clone_run (K := kdRu) GQ5.out.2.2 HS5.out (by have := HKL.out; omega) (by have := HLN.out; omega) 24
      have HRUN := Lib.hid hrun
      have HB6 := Lib.hid hb6
      have XQ6 := Lib.hid (XQ5.out.on hb6)
      have XQ7 : Hid (BoxPr (w6.setCell ⟨k8, 2, none⟩ (.slice (some ⟨g, 0, none⟩) q.rules.length cap)) k8 (.slice h0 q.decls.length h1) (.slice h2 q.facts.length h3) (.slice (some ⟨g, 0, none⟩) q.rules.length cap)) := heap_setCell_same _ _ _ _ _ _ XQ6.out
      have A7 : Hid (BoxRu (w6.setCell ⟨k8, 2, none⟩ (.slice (some ⟨g, 0, none⟩) q.rules.length cap)) kr (.string r.label) (.string r.head) (.slice xa r.args.length xc) (.string r.agg) (.int .i64 r.at') (.slice none 0 0)) := (Below.heap_setCell _ _ _ _ HK58.out.2.1).trans (A5.out.on hb6)
      have hkb := HK58.out
      have O7 : Hid (OwnK kdRu (fun k => k < k8) (w6.setCell ⟨k8, 2, none⟩ (.slice (some ⟨g, 0, none⟩) q.rules.length cap)) w5.heap.size q.rules (.slice (some ⟨g, 0, none⟩) q.rules.length cap)) := OwnK.on hown (fun _ h => h) (fun k hk => Below.heap_setCell _ _ _ _ (by simp; omega)) (fun k h1 _ _ => Below.heap_setCell _ _ _ _ (by simp; omega))
      have B57 : Hid (Below k8 w5 (w6.setCell ⟨k8, 2, none⟩ (.slice (some ⟨g, 0, none⟩) q.rules.length cap))) := (hb6.mono (show k8 ≤ w5.heap.size by omega)).setCell (p := ⟨k8, 2, none⟩) (Nat.le_refl _) _
      obtain ⟨p0, p1, p2⟩ := XQ5.out.cells
      obtain ⟨o0, o1, o2⟩ := XQ6.out.cells
      have z2 := frozen_of_row w6 k8 2 _ _ XQ6.out
      clear hrun hown hb6 hs35 hkrw hkb
      go_upto_region 22 with (at_builtin; refine wpList_append_by rfl _ _ _ rfl rfl rfl HRUN.out ?_)
      clear p0 p1 p2 o0 o1 o2 z2 HRUN XQ6 XQ5 A5
      generalize (w6.setCell ⟨k8, 2, none⟩ (.slice (some ⟨g, 0, none⟩) q.rules.length cap)) = w7 at *
      obtain ⟨cur, hbg, hh, hcs⟩ := OwnK.row O7.out (by have := HKL.out; omega)
      have hbd : k * 6 + 5 < cur.size := by have := HKL.out; omega
      obtain ⟨d0, t0⟩ := row_cell hh (k * 6) (by omega)
      obtain ⟨d1, t1⟩ := row_cell hh (k * 6 + 1) (by omega)
      obtain ⟨d2, t2⟩ := row_cell hh (k * 6 + 2) (by omega)
      obtain ⟨d3, t3⟩ := row_cell hh (k * 6 + 3) (by omega)
      obtain ⟨d4, t4⟩ := row_cell hh (k * 6 + 4) (by omega)
      obtain ⟨d5, t5⟩ := row_cell hh (k * 6 + 5) (by omega)
      have z0 := frozen_of_row w7 g (k * 6) _ _ hh
      have z1 := frozen_of_row w7 g (k * 6 + 1) _ _ hh
      have z2 := frozen_of_row w7 g (k * 6 + 2) _ _ hh
      have z3 := frozen_of_row w7 g (k * 6 + 3) _ _ hh
      have z4 := frozen_of_row w7 g (k * 6 + 4) _ _ hh
      have z5 := frozen_of_row w7 g (k * 6 + 5) _ _ hh
      have hk1 : (0 : Int) ≤ (k : Int) := Int.natCast_nonneg k
      have hk2 : (k : Int) < (q.rules.length : Int) := by have := HKL.out; omega
      obtain ⟨p0, p1, p2⟩ := XQ7.out.cells
      obtain ⟨a0, a1, a2, a3, a4, a5⟩ := A7.out.cells
      have hkb := HK58.out
      have GY7 := RepRu.on (S' := fun k => k < k8) (fun _ h => h) (fun k hk => B57.out.block k hk) GY.out
      have O8 := Lib.hid (OwnK.put O7.out (fun m hm => by omega) HKL.out GY7)
      have A8 : Hid (BoxRu (put6 w7 g (k * 6) (.string r.label) (.string r.head) (.slice xa r.args.length xc) (.string r.agg) (.int .i64 r.at') (.slice none 0 0)) kr (.string r.label) (.string r.head) (.slice xa r.args.length xc) (.string r.agg) (.int .i64 r.at') (.slice none 0 0)) := (put6_other _ _ _ _ _ _ _ _ _ kr (by omega)).trans A7.out
      have XQ8 : Hid (BoxPr (put6 w7 g (k * 6) (.string r.label) (.string r.head) (.slice xa r.args.length xc) (.string r.agg) (.int .i64 r.at') (.slice none 0 0)) k8 (.slice h0 q.decls.length h1) (.slice h2 q.facts.length h3) (.slice (some ⟨g, 0, none⟩) q.rules.length cap)) := (put6_other _ _ _ _ _ _ _ _ _ k8 (by omega)).trans XQ7.out
      have B78 : Hid (Below k8 w5 (put6 w7 g (k * 6) (.string r.label) (.string r.head) (.slice xa r.args.length xc) (.string r.agg) (.int .i64 r.at') (.slice none 0 0))) := put6_below B57.out (by omega) _ _ _ _ _ _ _
      unfold put6 at O8 A8 XQ8 B78
      clear hkb GY7 hh hcs hbd hbg
      go_upto_region 23 with fail
      clear hk1 hk2 p0 p1 p2 a0 a1 a2 a3 a4 a5 t0 z0 t1 z1 t2 z2 t3 z3 t4 z4 t5 z5 O7 A7 XQ7 B57
      generalize ((((((w7.setCell ⟨g, k * 6, none⟩ (.string r.label)).setCell ⟨g, k * 6 + 1, none⟩ (.string r.head)).setCell ⟨g, k * 6 + 2, none⟩ (.slice xa r.args.length xc)).setCell ⟨g, k * 6 + 3, none⟩ (.string r.agg)).setCell ⟨g, k * 6 + 4, none⟩ (.int .i64 r.at')).setCell ⟨g, k * 6 + 5, none⟩ (.slice none 0 0)) = w8 at *
      have HQF := Lib.hid (bad_set HKL.out HY.out)
      have B8 := Lib.hid (Below.trans (B5.out) (B78.out.mono HW2.out))
      have R8 : Hid (RepPr (fun m => m < w8.heap.size) w8 ⟨q.decls, q.facts, q.rules.set k y⟩ (.slice h0 q.decls.length h1) (.slice h2 q.facts.length h3) (.slice (some ⟨g, 0, none⟩) q.rules.length cap)) := by
        have hs := B78.out.size
        have hf : ∀ m, m < k8 → m < w8.heap.size := fun m hm => by have := HK58.out; omega
        exact ⟨RepDes.on hf (fun m hm => B78.out.block m hm) GQ5.out.1, RepFas.on hf (fun m hm => B78.out.block m hm) GQ5.out.2.1, OwnK.slg O8.out (fun m hm => hf m hm) (fun m _ h => h) (by rw [List.length_set]; have := HLN.out; omega)⟩
      have Y8 : Hid (RepRu (fun m => m < w8.heap.size) w8 y (.string r.label) (.string r.head) (.slice xa r.args.length xc) (.string r.agg) (.int .i64 r.at') (.slice none 0 0)) := RepRu.on (fun m hm => by have := B78.out.size; have := HK58.out; omega) (fun m hm => B78.out.block m hm) GY.out
      clear O8 B78 GY GQ5
      obtain ⟨p0, p1, p2⟩ := XQ8.out.cells
      go_wp2_with fail
      refine (prRight_any _ (fun m => m < w8.heap.size) w8 _ _ _ (fun _ h => h) R8.out).mono ?_
      rw [HQF.out]
      rintro e w9 ⟨rfl, hb⟩
      have X9 := Lib.hid (XQ8.out.on hb); have A9 := Lib.hid (A8.out.on hb); have B9 := Lib.hid (Below.step B8.out hb); have L9 := Lib.hid hb
      clear hb p0 p1 p2
      obtain ⟨p0, p1, p2⟩ := X9.out.cells
      go_wp2_with fail
      refine (prPr_any _ (fun m => m < w8.heap.size) w9 _ _ _ (fun m hm => Nat.lt_of_lt_of_le hm L9.out.size) (Nat.lt_of_lt_of_le HG.out B9.out.size) (HT.out.below HG.out B9.out) (RepPr.on (fun _ h => h) (fun m hm => L9.out.block m hm) R8.out) (fun h => showPr_fits h)).mono ?_
      rw [told_false HQF.out]
      rintro e w10 ⟨rfl, hb⟩
      have A10 := Lib.hid (A9.out.on hb); have B10 := Lib.hid (Below.step B9.out hb); have L10 := Lib.hid (Below.step L9.out hb)
      clear hb p0 p1 p2
      obtain ⟨a0, a1, a2, a3, a4, a5⟩ := A10.out.cells
      go_wp2_with fail
      refine (prRu_any y (fun m => m < w8.heap.size) w10 _ _ _ _ _ _ (fun m hm => Nat.lt_of_lt_of_le hm L10.out.size) (Nat.lt_of_lt_of_le HG.out B10.out.size) (HT.out.below HG.out B10.out) (RepRu.on (fun _ h => h) (fun m hm => L10.out.block m hm) Y8.out) (fun h => showRu_fits h)).mono ?_
      rw [told_false HY.out]
      rintro e w11 ⟨rfl, hb⟩
      have B11 := Lib.hid (Below.step B10.out hb)
      clear hb a0 a1 a2 a3 a4 a5
      go_wp2_with fail
      go_ret
      exact ⟨rfl, B11.out⟩
    · rw [hj]
      clear hj
      obtain ⟨p0, p1, p2, p3, p4, p5⟩ := XR.out.cells
      have z01 := frozen_of_row w4 kr 1 _ _ XR.out
      have A0 : Hid (BoxRu (w4.setCell ⟨kr, 1, none⟩ (.string ⟨#[102, 95, 99, 111, 110, 115]⟩)) kr (.string r.label) (.string ⟨#[102, 95, 99, 111, 110, 115]⟩) (.slice xa r.args.length xc) (.string r.agg) (.int .i64 r.at') (.slice ya r.body.length yc)) := heap_setCell_same _ _ _ _ _ _ XR.out
      have D5 : Hid (Below w3.heap.size w3 (w4.setCell ⟨kr, 1, none⟩ (.string ⟨#[102, 95, 99, 111, 110, 115]⟩))) := (Below.setCell (p := ⟨kr, 1, none⟩) D4.out (by have := HKR.out; simp; omega) (.string ⟨#[102, 95, 99, 111, 110, 115]⟩))
      go_upto_region 21 with fail
      clear p0 p1 p2 p3 p4 p5 z01
      have A5 := A0
      clear A0
      generalize (w4.setCell ⟨kr, 1, none⟩ (.string ⟨#[102, 95, 99, 111, 110, 115]⟩)) = w5 at *
      have GY : Hid (RepRu (fun k => k < k8) w5 { r with head := ⟨#[102, 95, 99, 111, 110, 115]⟩ } (.string r.label) (.string ⟨#[102, 95, 99, 111, 110, 115]⟩) (.slice xa r.args.length xc) (.string r.agg) (.int .i64 r.at') (.slice ya r.body.length yc)) := ⟨rfl, rfl, rfl, rfl, GR.out.2.2.2.2.1, (by show (⟨#[102, 95, 99, 111, 110, 115]⟩ : ByteArray).size ≤ maxLen; decide), GR.out.2.2.2.2.2.2.1, GR.out.2.2.2.2.2.2.2.1, RepMs.on (fun _ h => h) (fun k hk => D5.out.block k (by have := HSA.out; omega)) GR.out.2.2.2.2.2.2.2.2.1, RepLis.on (fun _ h => h) (fun k hk => D5.out.block k (by have := HSA.out; omega)) GR.out.2.2.2.2.2.2.2.2.2⟩
      have HY : Hid (ruB { r with head := ⟨#[102, 95, 99, 111, 110, 115]⟩ } = false) := bad_cons r
      generalize { r with head := ⟨#[102, 95, 99, 111, 110, 115]⟩ } = y at *
      clear GR
      have GQ5 := Lib.hid (RepPr.on (S' := fun k => k < k8) (fun _ h => h) (fun k hk => D5.out.block k (by have := HSA.out; omega)) GQ.out)
      have XQ5 := Lib.hid (XQ.out.on D5.out); have B5 := Lib.hid (Below.step B3.out D5.out)
      have hs35 := D5.out.size
      have HS5 : Hid (∀ k, k < k8 → k < w5.heap.size) := fun k hk => by have := HSA.out; omega
      have hkrw : kr < w5.heap.size := A5.out.lt
      have HK58 : Hid (k8 < w5.heap.size ∧ kr ≠ k8 ∧ kr < w5.heap.size) := by show _ ∧ _; have := HSA.out; have := HKR.out; omega
      obtain ⟨g, cap, w6, hrun, hown, hb6⟩ := clone_run (K := kdRu) GQ5.out.2.2 HS5.out (by have := HKL.out; omega) (by have := HLN.out; omega) 24
      have HRUN := Lib.hid hrun
      have HB6 := Lib.hid hb6
      have XQ6 := Lib.hid (XQ5.out.on hb6)
      have XQ7 : Hid (BoxPr (w6.setCell ⟨k8, 2, none⟩ (.slice (some ⟨g, 0, none⟩) q.rules.length cap)) k8 (.slice h0 q.decls.length h1) (.slice h2 q.facts.length h3) (.slice (some ⟨g, 0, none⟩) q.rules.length cap)) := heap_setCell_same _ _ _ _ _ _ XQ6.out
      have A7 : Hid (BoxRu (w6.setCell ⟨k8, 2, none⟩ (.slice (some ⟨g, 0, none⟩) q.rules.length cap)) kr (.string r.label) (.string ⟨#[102, 95, 99, 111, 110, 115]⟩) (.slice xa r.args.length xc) (.string r.agg) (.int .i64 r.at') (.slice ya r.body.length yc)) := (Below.heap_setCell _ _ _ _ HK58.out.2.1).trans (A5.out.on hb6)
      have hkb := HK58.out
      have O7 : Hid (OwnK kdRu (fun k => k < k8) (w6.setCell ⟨k8, 2, none⟩ (.slice (some ⟨g, 0, none⟩) q.rules.length cap)) w5.heap.size q.rules (.slice (some ⟨g, 0, none⟩) q.rules.length cap)) := OwnK.on hown (fun _ h => h) (fun k hk => Below.heap_setCell _ _ _ _ (by simp; omega)) (fun k h1 _ _ => Below.heap_setCell _ _ _ _ (by simp; omega))
      have B57 : Hid (Below k8 w5 (w6.setCell ⟨k8, 2, none⟩ (.slice (some ⟨g, 0, none⟩) q.rules.length cap))) := (hb6.mono (show k8 ≤ w5.heap.size by omega)).setCell (p := ⟨k8, 2, none⟩) (Nat.le_refl _) _
      obtain ⟨p0, p1, p2⟩ := XQ5.out.cells
      obtain ⟨o0, o1, o2⟩ := XQ6.out.cells
      have z2 := frozen_of_row w6 k8 2 _ _ XQ6.out
      clear hrun hown hb6 hs35 hkrw hkb
      go_upto_region 22 with (at_builtin; refine wpList_append_by rfl _ _ _ rfl rfl rfl HRUN.out ?_)
      clear p0 p1 p2 o0 o1 o2 z2 HRUN XQ6 XQ5 A5
      generalize (w6.setCell ⟨k8, 2, none⟩ (.slice (some ⟨g, 0, none⟩) q.rules.length cap)) = w7 at *
      obtain ⟨cur, hbg, hh, hcs⟩ := OwnK.row O7.out (by have := HKL.out; omega)
      have hbd : k * 6 + 5 < cur.size := by have := HKL.out; omega
      obtain ⟨d0, t0⟩ := row_cell hh (k * 6) (by omega)
      obtain ⟨d1, t1⟩ := row_cell hh (k * 6 + 1) (by omega)
      obtain ⟨d2, t2⟩ := row_cell hh (k * 6 + 2) (by omega)
      obtain ⟨d3, t3⟩ := row_cell hh (k * 6 + 3) (by omega)
      obtain ⟨d4, t4⟩ := row_cell hh (k * 6 + 4) (by omega)
      obtain ⟨d5, t5⟩ := row_cell hh (k * 6 + 5) (by omega)
      have z0 := frozen_of_row w7 g (k * 6) _ _ hh
      have z1 := frozen_of_row w7 g (k * 6 + 1) _ _ hh
      have z2 := frozen_of_row w7 g (k * 6 + 2) _ _ hh
      have z3 := frozen_of_row w7 g (k * 6 + 3) _ _ hh
      have z4 := frozen_of_row w7 g (k * 6 + 4) _ _ hh
      have z5 := frozen_of_row w7 g (k * 6 + 5) _ _ hh
      have hk1 : (0 : Int) ≤ (k : Int) := Int.natCast_nonneg k
      have hk2 : (k : Int) < (q.rules.length : Int) := by have := HKL.out; omega
      obtain ⟨p0, p1, p2⟩ := XQ7.out.cells
      obtain ⟨a0, a1, a2, a3, a4, a5⟩ := A7.out.cells
      have hkb := HK58.out
      have GY7 := RepRu.on (S' := fun k => k < k8) (fun _ h => h) (fun k hk => B57.out.block k hk) GY.out
      have O8 := Lib.hid (OwnK.put O7.out (fun m hm => by omega) HKL.out GY7)
      have A8 : Hid (BoxRu (put6 w7 g (k * 6) (.string r.label) (.string ⟨#[102, 95, 99, 111, 110, 115]⟩) (.slice xa r.args.length xc) (.string r.agg) (.int .i64 r.at') (.slice ya r.body.length yc)) kr (.string r.label) (.string ⟨#[102, 95, 99, 111, 110, 115]⟩) (.slice xa r.args.length xc) (.string r.agg) (.int .i64 r.at') (.slice ya r.body.length yc)) := (put6_other _ _ _ _ _ _ _ _ _ kr (by omega)).trans A7.out
      have XQ8 : Hid (BoxPr (put6 w7 g (k * 6) (.string r.label) (.string ⟨#[102, 95, 99, 111, 110, 115]⟩) (.slice xa r.args.length xc) (.string r.agg) (.int .i64 r.at') (.slice ya r.body.length yc)) k8 (.slice h0 q.decls.length h1) (.slice h2 q.facts.length h3) (.slice (some ⟨g, 0, none⟩) q.rules.length cap)) := (put6_other _ _ _ _ _ _ _ _ _ k8 (by omega)).trans XQ7.out
      have B78 : Hid (Below k8 w5 (put6 w7 g (k * 6) (.string r.label) (.string ⟨#[102, 95, 99, 111, 110, 115]⟩) (.slice xa r.args.length xc) (.string r.agg) (.int .i64 r.at') (.slice ya r.body.length yc))) := put6_below B57.out (by omega) _ _ _ _ _ _ _
      unfold put6 at O8 A8 XQ8 B78
      clear hkb GY7 hh hcs hbd hbg
      go_upto_region 23 with fail
      clear hk1 hk2 p0 p1 p2 a0 a1 a2 a3 a4 a5 t0 z0 t1 z1 t2 z2 t3 z3 t4 z4 t5 z5 O7 A7 XQ7 B57
      generalize ((((((w7.setCell ⟨g, k * 6, none⟩ (.string r.label)).setCell ⟨g, k * 6 + 1, none⟩ (.string ⟨#[102, 95, 99, 111, 110, 115]⟩)).setCell ⟨g, k * 6 + 2, none⟩ (.slice xa r.args.length xc)).setCell ⟨g, k * 6 + 3, none⟩ (.string r.agg)).setCell ⟨g, k * 6 + 4, none⟩ (.int .i64 r.at')).setCell ⟨g, k * 6 + 5, none⟩ (.slice ya r.body.length yc)) = w8 at *
      have HQF := Lib.hid (bad_set HKL.out HY.out)
      have B8 := Lib.hid (Below.trans (B5.out) (B78.out.mono HW2.out))
      have R8 : Hid (RepPr (fun m => m < w8.heap.size) w8 ⟨q.decls, q.facts, q.rules.set k y⟩ (.slice h0 q.decls.length h1) (.slice h2 q.facts.length h3) (.slice (some ⟨g, 0, none⟩) q.rules.length cap)) := by
        have hs := B78.out.size
        have hf : ∀ m, m < k8 → m < w8.heap.size := fun m hm => by have := HK58.out; omega
        exact ⟨RepDes.on hf (fun m hm => B78.out.block m hm) GQ5.out.1, RepFas.on hf (fun m hm => B78.out.block m hm) GQ5.out.2.1, OwnK.slg O8.out (fun m hm => hf m hm) (fun m _ h => h) (by rw [List.length_set]; have := HLN.out; omega)⟩
      have Y8 : Hid (RepRu (fun m => m < w8.heap.size) w8 y (.string r.label) (.string ⟨#[102, 95, 99, 111, 110, 115]⟩) (.slice xa r.args.length xc) (.string r.agg) (.int .i64 r.at') (.slice ya r.body.length yc)) := RepRu.on (fun m hm => by have := B78.out.size; have := HK58.out; omega) (fun m hm => B78.out.block m hm) GY.out
      clear O8 B78 GY GQ5
      obtain ⟨p0, p1, p2⟩ := XQ8.out.cells
      go_wp2_with fail
      refine (prRight_any _ (fun m => m < w8.heap.size) w8 _ _ _ (fun _ h => h) R8.out).mono ?_
      rw [HQF.out]
      rintro e w9 ⟨rfl, hb⟩
      have X9 := Lib.hid (XQ8.out.on hb); have A9 := Lib.hid (A8.out.on hb); have B9 := Lib.hid (Below.step B8.out hb); have L9 := Lib.hid hb
      clear hb p0 p1 p2
      obtain ⟨p0, p1, p2⟩ := X9.out.cells
      go_wp2_with fail
      refine (prPr_any _ (fun m => m < w8.heap.size) w9 _ _ _ (fun m hm => Nat.lt_of_lt_of_le hm L9.out.size) (Nat.lt_of_lt_of_le HG.out B9.out.size) (HT.out.below HG.out B9.out) (RepPr.on (fun _ h => h) (fun m hm => L9.out.block m hm) R8.out) (fun h => showPr_fits h)).mono ?_
      rw [told_false HQF.out]
      rintro e w10 ⟨rfl, hb⟩
      have A10 := Lib.hid (A9.out.on hb); have B10 := Lib.hid (Below.step B9.out hb); have L10 := Lib.hid (Below.step L9.out hb)
      clear hb p0 p1 p2
      obtain ⟨a0, a1, a2, a3, a4, a5⟩ := A10.out.cells
      go_wp2_with fail
      refine (prRu_any y (fun m => m < w8.heap.size) w10 _ _ _ _ _ _ (fun m hm => Nat.lt_of_lt_of_le hm L10.out.size) (Nat.lt_of_lt_of_le HG.out B10.out.size) (HT.out.below HG.out B10.out) (RepRu.on (fun _ h => h) (fun m hm => L10.out.block m hm) Y8.out) (fun h => showRu_fits h)).mono ?_
      rw [told_false HY.out]
      rintro e w11 ⟨rfl, hb⟩
      have B11 := Lib.hid (Below.step B10.out hb)
      clear hb a0 a1 a2 a3 a4 a5
      go_wp2_with fail
      go_ret
      exact ⟨rfl, B11.out⟩
    · rw [hj]
      clear hj
      obtain ⟨p0, p1, p2, p3, p4, p5⟩ := XR.out.cells
      have z02 := frozen_of_row w4 kr 2 _ _ XR.out
      have A0 : Hid (BoxRu (w4.setCell ⟨kr, 2, none⟩ (.slice none 0 0)) kr (.string r.label) (.string r.head) (.slice none 0 0) (.string r.agg) (.int .i64 r.at') (.slice ya r.body.length yc)) := heap_setCell_same _ _ _ _ _ _ XR.out
      have D5 : Hid (Below w3.heap.size w3 (w4.setCell ⟨kr, 2, none⟩ (.slice none 0 0))) := (Below.setCell (p := ⟨kr, 2, none⟩) D4.out (by have := HKR.out; simp; omega) (.slice none 0 0))
      go_upto_region 21 with fail
      clear p0 p1 p2 p3 p4 p5 z02
      have A5 := A0
      clear A0
      generalize (w4.setCell ⟨kr, 2, none⟩ (.slice none 0 0)) = w5 at *
      have GY : Hid (RepRu (fun k => k < k8) w5 { r with args := [] } (.string r.label) (.string r.head) (.slice none 0 0) (.string r.agg) (.int .i64 r.at') (.slice ya r.body.length yc)) := ⟨rfl, rfl, rfl, rfl, GR.out.2.2.2.2.1, GR.out.2.2.2.2.2.1, GR.out.2.2.2.2.2.2.1, GR.out.2.2.2.2.2.2.2.1, slg_nil, RepLis.on (fun _ h => h) (fun k hk => D5.out.block k (by have := HSA.out; omega)) GR.out.2.2.2.2.2.2.2.2.2⟩
      have HY : Hid (ruB { r with args := [] } = false) := bad_args (r := { r with args := [] }) rfl
      generalize { r with args := [] } = y at *
      clear GR
      have GQ5 := Lib.hid (RepPr.on (S' := fun k => k < k8) (fun _ h => h) (fun k hk => D5.out.block k (by have := HSA.out; omega)) GQ.out)
      have XQ5 := Lib.hid (XQ.out.on D5.out); have B5 := Lib.hid (Below.step B3.out D5.out)
      have hs35 := D5.out.size
      have HS5 : Hid (∀ k, k < k8 → k < w5.heap.size) := fun k hk => by have := HSA.out; omega
      have hkrw : kr < w5.heap.size := A5.out.lt
      have HK58 : Hid (k8 < w5.heap.size ∧ kr ≠ k8 ∧ kr < w5.heap.size) := by show _ ∧ _; have := HSA.out; have := HKR.out; omega
      obtain ⟨g, cap, w6, hrun, hown, hb6⟩ := clone_run (K := kdRu) GQ5.out.2.2 HS5.out (by have := HKL.out; omega) (by have := HLN.out; omega) 24
      have HRUN := Lib.hid hrun
      have HB6 := Lib.hid hb6
      have XQ6 := Lib.hid (XQ5.out.on hb6)
      have XQ7 : Hid (BoxPr (w6.setCell ⟨k8, 2, none⟩ (.slice (some ⟨g, 0, none⟩) q.rules.length cap)) k8 (.slice h0 q.decls.length h1) (.slice h2 q.facts.length h3) (.slice (some ⟨g, 0, none⟩) q.rules.length cap)) := heap_setCell_same _ _ _ _ _ _ XQ6.out
      have A7 : Hid (BoxRu (w6.setCell ⟨k8, 2, none⟩ (.slice (some ⟨g, 0, none⟩) q.rules.length cap)) kr (.string r.label) (.string r.head) (.slice none 0 0) (.string r.agg) (.int .i64 r.at') (.slice ya r.body.length yc)) := (Below.heap_setCell _ _ _ _ HK58.out.2.1).trans (A5.out.on hb6)
      have hkb := HK58.out
      have O7 : Hid (OwnK kdRu (fun k => k < k8) (w6.setCell ⟨k8, 2, none⟩ (.slice (some ⟨g, 0, none⟩) q.rules.length cap)) w5.heap.size q.rules (.slice (some ⟨g, 0, none⟩) q.rules.length cap)) := OwnK.on hown (fun _ h => h) (fun k hk => Below.heap_setCell _ _ _ _ (by simp; omega)) (fun k h1 _ _ => Below.heap_setCell _ _ _ _ (by simp; omega))
      have B57 : Hid (Below k8 w5 (w6.setCell ⟨k8, 2, none⟩ (.slice (some ⟨g, 0, none⟩) q.rules.length cap))) := (hb6.mono (show k8 ≤ w5.heap.size by omega)).setCell (p := ⟨k8, 2, none⟩) (Nat.le_refl _) _
      obtain ⟨p0, p1, p2⟩ := XQ5.out.cells
      obtain ⟨o0, o1, o2⟩ := XQ6.out.cells
      have z2 := frozen_of_row w6 k8 2 _ _ XQ6.out
      clear hrun hown hb6 hs35 hkrw hkb
      go_upto_region 22 with (at_builtin; refine wpList_append_by rfl _ _ _ rfl rfl rfl HRUN.out ?_)
      clear p0 p1 p2 o0 o1 o2 z2 HRUN XQ6 XQ5 A5
      generalize (w6.setCell ⟨k8, 2, none⟩ (.slice (some ⟨g, 0, none⟩) q.rules.length cap)) = w7 at *
      obtain ⟨cur, hbg, hh, hcs⟩ := OwnK.row O7.out (by have := HKL.out; omega)
      have hbd : k * 6 + 5 < cur.size := by have := HKL.out; omega
      obtain ⟨d0, t0⟩ := row_cell hh (k * 6) (by omega)
      obtain ⟨d1, t1⟩ := row_cell hh (k * 6 + 1) (by omega)
      obtain ⟨d2, t2⟩ := row_cell hh (k * 6 + 2) (by omega)
      obtain ⟨d3, t3⟩ := row_cell hh (k * 6 + 3) (by omega)
      obtain ⟨d4, t4⟩ := row_cell hh (k * 6 + 4) (by omega)
      obtain ⟨d5, t5⟩ := row_cell hh (k * 6 + 5) (by omega)
      have z0 := frozen_of_row w7 g (k * 6) _ _ hh
      have z1 := frozen_of_row w7 g (k * 6 + 1) _ _ hh
      have z2 := frozen_of_row w7 g (k * 6 + 2) _ _ hh
      have z3 := frozen_of_row w7 g (k * 6 + 3) _ _ hh
      have z4 := frozen_of_row w7 g (k * 6 + 4) _ _ hh
      have z5 := frozen_of_row w7 g (k * 6 + 5) _ _ hh
      have hk1 : (0 : Int) ≤ (k : Int) := Int.natCast_nonneg k
      have hk2 : (k : Int) < (q.rules.length : Int) := by have := HKL.out; omega
      obtain ⟨p0, p1, p2⟩ := XQ7.out.cells
      obtain ⟨a0, a1, a2, a3, a4, a5⟩ := A7.out.cells
      have hkb := HK58.out
      have GY7 := RepRu.on (S' := fun k => k < k8) (fun _ h => h) (fun k hk => B57.out.block k hk) GY.out
      have O8 := Lib.hid (OwnK.put O7.out (fun m hm => by omega) HKL.out GY7)
      have A8 : Hid (BoxRu (put6 w7 g (k * 6) (.string r.label) (.string r.head) (.slice none 0 0) (.string r.agg) (.int .i64 r.at') (.slice ya r.body.length yc)) kr (.string r.label) (.string r.head) (.slice none 0 0) (.string r.agg) (.int .i64 r.at') (.slice ya r.body.length yc)) := (put6_other _ _ _ _ _ _ _ _ _ kr (by omega)).trans A7.out
      have XQ8 : Hid (BoxPr (put6 w7 g (k * 6) (.string r.label) (.string r.head) (.slice none 0 0) (.string r.agg) (.int .i64 r.at') (.slice ya r.body.length yc)) k8 (.slice h0 q.decls.length h1) (.slice h2 q.facts.length h3) (.slice (some ⟨g, 0, none⟩) q.rules.length cap)) := (put6_other _ _ _ _ _ _ _ _ _ k8 (by omega)).trans XQ7.out
      have B78 : Hid (Below k8 w5 (put6 w7 g (k * 6) (.string r.label) (.string r.head) (.slice none 0 0) (.string r.agg) (.int .i64 r.at') (.slice ya r.body.length yc))) := put6_below B57.out (by omega) _ _ _ _ _ _ _
      unfold put6 at O8 A8 XQ8 B78
      clear hkb GY7 hh hcs hbd hbg
      go_upto_region 23 with fail
      clear hk1 hk2 p0 p1 p2 a0 a1 a2 a3 a4 a5 t0 z0 t1 z1 t2 z2 t3 z3 t4 z4 t5 z5 O7 A7 XQ7 B57
      generalize ((((((w7.setCell ⟨g, k * 6, none⟩ (.string r.label)).setCell ⟨g, k * 6 + 1, none⟩ (.string r.head)).setCell ⟨g, k * 6 + 2, none⟩ (.slice none 0 0)).setCell ⟨g, k * 6 + 3, none⟩ (.string r.agg)).setCell ⟨g, k * 6 + 4, none⟩ (.int .i64 r.at')).setCell ⟨g, k * 6 + 5, none⟩ (.slice ya r.body.length yc)) = w8 at *
      have HQF := Lib.hid (bad_set HKL.out HY.out)
      have B8 := Lib.hid (Below.trans (B5.out) (B78.out.mono HW2.out))
      have R8 : Hid (RepPr (fun m => m < w8.heap.size) w8 ⟨q.decls, q.facts, q.rules.set k y⟩ (.slice h0 q.decls.length h1) (.slice h2 q.facts.length h3) (.slice (some ⟨g, 0, none⟩) q.rules.length cap)) := by
        have hs := B78.out.size
        have hf : ∀ m, m < k8 → m < w8.heap.size := fun m hm => by have := HK58.out; omega
        exact ⟨RepDes.on hf (fun m hm => B78.out.block m hm) GQ5.out.1, RepFas.on hf (fun m hm => B78.out.block m hm) GQ5.out.2.1, OwnK.slg O8.out (fun m hm => hf m hm) (fun m _ h => h) (by rw [List.length_set]; have := HLN.out; omega)⟩
      have Y8 : Hid (RepRu (fun m => m < w8.heap.size) w8 y (.string r.label) (.string r.head) (.slice none 0 0) (.string r.agg) (.int .i64 r.at') (.slice ya r.body.length yc)) := RepRu.on (fun m hm => by have := B78.out.size; have := HK58.out; omega) (fun m hm => B78.out.block m hm) GY.out
      clear O8 B78 GY GQ5
      obtain ⟨p0, p1, p2⟩ := XQ8.out.cells
      go_wp2_with fail
      refine (prRight_any _ (fun m => m < w8.heap.size) w8 _ _ _ (fun _ h => h) R8.out).mono ?_
      rw [HQF.out]
      rintro e w9 ⟨rfl, hb⟩
      have X9 := Lib.hid (XQ8.out.on hb); have A9 := Lib.hid (A8.out.on hb); have B9 := Lib.hid (Below.step B8.out hb); have L9 := Lib.hid hb
      clear hb p0 p1 p2
      obtain ⟨p0, p1, p2⟩ := X9.out.cells
      go_wp2_with fail
      refine (prPr_any _ (fun m => m < w8.heap.size) w9 _ _ _ (fun m hm => Nat.lt_of_lt_of_le hm L9.out.size) (Nat.lt_of_lt_of_le HG.out B9.out.size) (HT.out.below HG.out B9.out) (RepPr.on (fun _ h => h) (fun m hm => L9.out.block m hm) R8.out) (fun h => showPr_fits h)).mono ?_
      rw [told_false HQF.out]
      rintro e w10 ⟨rfl, hb⟩
      have A10 := Lib.hid (A9.out.on hb); have B10 := Lib.hid (Below.step B9.out hb); have L10 := Lib.hid (Below.step L9.out hb)
      clear hb p0 p1 p2
      obtain ⟨a0, a1, a2, a3, a4, a5⟩ := A10.out.cells
      go_wp2_with fail
      refine (prRu_any y (fun m => m < w8.heap.size) w10 _ _ _ _ _ _ (fun m hm => Nat.lt_of_lt_of_le hm L10.out.size) (Nat.lt_of_lt_of_le HG.out B10.out.size) (HT.out.below HG.out B10.out) (RepRu.on (fun _ h => h) (fun m hm => L10.out.block m hm) Y8.out) (fun h => showRu_fits h)).mono ?_
      rw [told_false HY.out]
      rintro e w11 ⟨rfl, hb⟩
      have B11 := Lib.hid (Below.step B10.out hb)
      clear hb a0 a1 a2 a3 a4 a5
      go_wp2_with fail
      go_ret
      exact ⟨rfl, B11.out⟩

end Go.Proofs.YtgjemmdhamkngaaGreatDoor.printerWrong
