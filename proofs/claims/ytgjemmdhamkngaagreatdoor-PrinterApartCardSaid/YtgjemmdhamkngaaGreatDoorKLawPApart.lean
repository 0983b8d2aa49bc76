/-
  LawPApart
-/
import Derived.Test.YtgjemmdhamkngaaGreatDoorKB
import Derived.Test.YtgjemmdhamkngaaGreatDoorK29
import Derived.Test.YtgjemmdhamkngaaGreatDoorKSameProg
import Derived.Test.YtgjemmdhamkngaaGreatDoorK06
import Derived.Test.YtgjemmdhamkngaaGreatDoorK30
namespace Go.Proofs.YtgjemmdhamkngaaGreatDoor.printerApart
open Go.RowKit
theorem pr_same {x y : Pr} (hx : prB x = true) (hy : prB y = true) : ((⟨(showPr x).toArray⟩ : ByteArray).toList == (⟨(showPr y).toArray⟩ : ByteArray).toList) = eqB (x = y) := by
 rw [Lib.toList_data, Lib.toList_data]
 by_cases h : x = y
 ·subst h
  rw [eqB_true rfl]; simp
 ·rw [eqB_false h]
  cases e : (showPr x == showPr y) with
  | false => simp
  | true => exact absurd (pr_text_apart hx hy (by simpa using e)) h
theorem told_true {b : Bool} {l : List UInt8} (h : b = true) : told b l = l := by rw [h]; rfl
theorem pr_few {x : Pr} (h : prB x = true) : x.decls.length ≤ 1000 ∧ x.facts.length ≤ 1000 ∧ x.rules.length ≤ 1000 := by
 rw [prB] at h
 simp only [Bool.and_eq_true] at h
 have h1 := (listB_bounds h.1).2.1
 have h2 := (listB_bounds h.2.1).2.1
 have h3 := (listB_bounds h.2.2).2.1
 omega
set_option maxRecDepth 100000 in
set_option maxHeartbeats 3000000 in
theorem walk (x0 x1 : Pr) (W : World) (a0 a1 a2 b0 b1 b2 : Value) (htab : TabOk W) (q0 : RepPr (fun k => k < W.heap.size) W x0 a0 a1 a2) (q1 : RepPr (fun k => k < W.heap.size) W x1 b0 b1 b2) :
  Calls Tryz.prog 5 #[.agg #[a0, a1, a2], .agg #[b0, b1, b2]] W fun e W' => e = .returned (.bool true) ∧ Below W.heap.size W W' := by
 have G0 := Lib.hid q0; have G1 := Lib.hid q1
 obtain ⟨f0, f1, rfl⟩ := SlG.form q0.1
 obtain ⟨f2, f3, rfl⟩ := SlG.form q0.2.1
 obtain ⟨f4, f5, rfl⟩ := SlG.form q0.2.2
 obtain ⟨g0, g1, rfl⟩ := SlG.form q1.1
 obtain ⟨g2, g3, rfl⟩ := SlG.form q1.2.1
 obtain ⟨g4, g5, rfl⟩ := SlG.form q1.2.2
 have HG := Lib.hid (tab_lt htab); have HT := Lib.hid htab
 clear q0 q1 htab
 go_enter Tryz.func5, Tryz.ntmps5
 go_wp2_with fail
 have y0 := boxPr_new W (.slice f0 x0.decls.length f1) (.slice f2 x0.facts.length f3) (.slice f4 x0.rules.length f5)
 have s0 := World.size_alloc W (.cells #[.slice f0 x0.decls.length f1, .slice f2 x0.facts.length f3, .slice f4 x0.rules.length f5] 26)
 have d0 := below_alloc W (.cells #[.slice f0 x0.decls.length f1, .slice f2 x0.facts.length f3, .slice f4 x0.rules.length f5] 26)
 generalize W.alloc (.cells #[.slice f0 x0.decls.length f1, .slice f2 x0.facts.length f3, .slice f4 x0.rules.length f5] 26) = w0 at *
 have y1 := boxPr_new w0 (.slice g0 x1.decls.length g1) (.slice g2 x1.facts.length g3) (.slice g4 x1.rules.length g5)
 have d1 := below_alloc w0 (.cells #[.slice g0 x1.decls.length g1, .slice g2 x1.facts.length g3, .slice g4 x1.rules.length g5] 26)
 generalize w0.alloc (.cells #[.slice g0 x1.decls.length g1, .slice g2 x1.facts.length g3, .slice g4 x1.rules.length g5] 26) = w1 at *
 rw [s0] at y1
 have Y0 := Lib.hid (y0.on d1); have Y1 := Lib.hid y1; have B1 := Lib.hid (Below.step d0 d1)
 clear y0 y1 s0 d0 d1
 refine (awake4_any _ (Nat.lt_of_lt_of_le HG.out B1.out.size) (HT.out.below HG.out B1.out)).mono ?_
 rintro e w2 ⟨rfl, hb⟩
 replace Y0 := Lib.hid (Y0.out.on hb); replace Y1 := Lib.hid (Y1.out.on hb)
 have B2 := Lib.hid (Below.step B1.out hb)
 clear hb B1
 obtain ⟨p0, p1, p2⟩ := Y0.out.cells
 go_wp2_with fail
 clear p0 p1 p2
 refine (fitPr_any x0 (fun k => k < W.heap.size) w2 _ _ _ (fun k hk => Nat.lt_of_lt_of_le hk B2.out.size) (RepPr.on (fun _ h => h) (fun k hk => B2.out.block k hk) G0.out)).mono ?_
 rintro e w3 ⟨v0, v1, v2, rfl, hrep, hb⟩
 have HR0 := Lib.hid (fitPr_right x0)
 generalize fitPr x0 = z0 at *
 obtain ⟨h0, h1, rfl⟩ := SlG.form hrep.1
 obtain ⟨h2, h3, rfl⟩ := SlG.form hrep.2.1
 obtain ⟨h4, h5, rfl⟩ := SlG.form hrep.2.2
 have mk := boxPr_new w3 (.slice h0 z0.decls.length h1) (.slice h2 z0.facts.length h3) (.slice h4 z0.rules.length h5)
 have da := below_alloc w3 (.cells #[.slice h0 z0.decls.length h1, .slice h2 z0.facts.length h3, .slice h4 z0.rules.length h5] 26)
 have db := Below.step hb da
 have R0 := Lib.hid (RepPr.on (S' := fun k => k < (w3.alloc (.cells #[.slice h0 z0.decls.length h1, .slice h2 z0.facts.length h3, .slice h4 z0.rules.length h5] 26)).heap.size) (fun k hk => Nat.lt_of_lt_of_le hk.2 da.size) (fun k hk => da.block k hk.2) hrep)
 have B4 := Lib.hid (Below.step B2.out db)
 have M0 := Lib.hid mk
 replace Y1 := Lib.hid (Y1.out.on db)
 clear Y0
 obtain ⟨p0, p1, p2⟩ := Y1.out.cells
 clear mk da hrep hb B2
 clear db
 go_wp2_with fail
 clear p0 p1 p2 Y1
 generalize (w3.alloc (.cells #[.slice h0 z0.decls.length h1, .slice h2 z0.facts.length h3, .slice h4 z0.rules.length h5] 26)) = w4 at *
 obtain ⟨k6, hk6⟩ : ∃ k, w3.heap.size = k := ⟨_, rfl⟩
 rw [hk6] at M0 ⊢
 clear hk6
 refine (fitPr_any x1 (fun k => k < W.heap.size) w4 _ _ _ (fun k hk => Nat.lt_of_lt_of_le hk B4.out.size) (RepPr.on (fun _ h => h) (fun k hk => B4.out.block k hk) G1.out)).mono ?_
 rintro e w5 ⟨v0, v1, v2, rfl, hrep, hb⟩
 have HR1 := Lib.hid (fitPr_right x1)
 generalize fitPr x1 = z1 at *
 obtain ⟨i0, i1, rfl⟩ := SlG.form hrep.1
 obtain ⟨i2, i3, rfl⟩ := SlG.form hrep.2.1
 obtain ⟨i4, i5, rfl⟩ := SlG.form hrep.2.2
 have mk := boxPr_new w5 (.slice i0 z1.decls.length i1) (.slice i2 z1.facts.length i3) (.slice i4 z1.rules.length i5)
 have da := below_alloc w5 (.cells #[.slice i0 z1.decls.length i1, .slice i2 z1.facts.length i3, .slice i4 z1.rules.length i5] 26)
 have db := Below.step hb da
 have R1 := Lib.hid (RepPr.on (S' := fun k => k < (w5.alloc (.cells #[.slice i0 z1.decls.length i1, .slice i2 z1.facts.length i3, .slice i4 z1.rules.length i5] 26)).heap.size) (fun k hk => Nat.lt_of_lt_of_le hk.2 da.size) (fun k hk => da.block k hk.2) hrep)
 have B6 := Lib.hid (Below.step B4.out db)
 have M1 := Lib.hid mk
 replace M0 := Lib.hid (M0.out.on db)
 replace R0 := Lib.hid (RepPr.on (S' := fun k => k < (w5.alloc (.cells #[.slice i0 z1.decls.length i1, .slice i2 z1.facts.length i3, .slice i4 z1.rules.length i5] 26)).heap.size) (fun k hk => Nat.lt_of_lt_of_le hk db.size) (fun k hk => db.block k hk) R0.out)
 clear mk da hrep hb B4
 clear db
 go_wp2_with fail
 generalize (w5.alloc (.cells #[.slice i0 z1.decls.length i1, .slice i2 z1.facts.length i3, .slice i4 z1.rules.length i5] 26)) = w6 at *
 obtain ⟨k7, hk7⟩ : ∃ k, w5.heap.size = k := ⟨_, rfl⟩
 rw [hk7] at M1 ⊢
 clear hk7
 obtain ⟨v, hv⟩ : ∃ v, eqB (z0 = z1) = v := ⟨_, rfl⟩
 have HV := Lib.hid hv
 have HE := Lib.hid ((pr_same HR0.out HR1.out).trans hv)
 obtain ⟨TX, hTX⟩ : ∃ t : ByteArray, (⟨(showPr z0).toArray⟩ : ByteArray) = t := ⟨_, rfl⟩
 obtain ⟨TY, hTY⟩ : ∃ t : ByteArray, (⟨(showPr z1).toArray⟩ : ByteArray) = t := ⟨_, rfl⟩
 rw [hTX, hTY] at HE
 have HTX := Lib.hid hTX; have HTY := Lib.hid hTY
 clear hv hTX hTY
 refine wp_region_factsG (by rfl) 33 (by rfl) (by kernel_rfl) (fun wz iz vz => (iz = 0 → vz = .bool true) ∧ (iz = 1 → vz = .bool true) ∧ (iz = 2 → vz = .agg #[.slice h0 z0.decls.length h1, .slice h2 z0.facts.length h3, .slice h4 z0.rules.length h5]) ∧ (iz = 3 → vz = .bool true) ∧ (iz = 4 → vz = .bool true) ∧ (iz = 5 → vz = .bool true) ∧ (iz = 6 → vz = .agg #[.slice i0 z1.decls.length i1, .slice i2 z1.facts.length i3, .slice i4 z1.rules.length i5]) ∧ (iz = 7 → vz = .bool true) ∧ (iz = 8 → vz = .bool true) ∧ (iz = 9 → vz = .bool true) ∧ (iz = 10 → vz = .agg #[.slice h0 z0.decls.length h1, .slice h2 z0.facts.length h3, .slice h4 z0.rules.length h5]) ∧ (iz = 11 → vz = .string TX) ∧ (iz = 12 → vz = .agg #[.slice i0 z1.decls.length i1, .slice i2 z1.facts.length i3, .slice i4 z1.rules.length i5]) ∧ (iz = 13 → vz = .string TY) ∧ (iz = 14 → vz = .bool v) ∧ (iz = 15 → vz = .agg #[.slice h0 z0.decls.length h1, .slice h2 z0.facts.length h3, .slice h4 z0.rules.length h5]) ∧ (iz = 16 → vz = .agg #[.slice i0 z1.decls.length i1, .slice i2 z1.facts.length i3, .slice i4 z1.rules.length i5]) ∧ (iz = 17 → vz = .bool v) ∧ (iz = 18 → vz = .bool true) ∧ (iz = 19 → vz = .bool true) ∧ (iz = 20 → vz = .bool true)) (fun w' => Below w6.heap.size w6 w') (Below.drew (Below.refl _ _)) ⟨?s0, ?s1, ?s2, ?s3, ?s4, ?s5, ?s6, ?s7, ?s8, ?s9, ?s10, ?s11, ?s12, ?s13, ?s14, ?s15, ?s16, ?s17, ?s18, ?s19, ?s20, trivial⟩ ?fin
 case s0 =>
  intro a w' hoff hg hdep K hK
  have h5 := off_at hoff 5 (v := .bool true) (by kernel_rfl) rfl
  rw [if_pos (by rfl)]
  go_simp
  exact hK.out _ _ hg ⟨fun _ => rfl, nn,nn,nn,nn,nn,nn,nn,nn,nn,nn,nn,nn,nn,nn,nn,nn,nn,nn,nn,nn⟩ (fun _ _ h => h)
 case s1 =>
  intro a w' hoff hg hdep K hK
  obtain ⟨v0, e0, f0⟩ := hdep 0 _ 13 (by kernel_rfl) rfl rfl
  obtain rfl := (f0.1 rfl).symm
  rw [if_pos (by rfl)]
  go_simp
  exact hK.out _ _ hg ⟨nn, fun _ => rfl, nn,nn,nn,nn,nn,nn,nn,nn,nn,nn,nn,nn,nn,nn,nn,nn,nn,nn,nn⟩ (fun _ _ h => h)
 case s2 =>
  intro a w' hoff hg hdep K hK
  have h6 := off_at hoff 6 (v := .pointer (some ⟨k6, 0, none⟩)) (by kernel_rfl) rfl
  obtain ⟨v1, e1, f1⟩ := hdep 1 _ 14 (by kernel_rfl) rfl rfl
  obtain rfl := (f1.2.1 rfl).symm
  rw [if_pos (by simp [Region.wanted, yielded, e1])]
  obtain ⟨p0, p1, p2⟩ := (M0.out.on hg).cells; obtain ⟨r0, r1, r2⟩ := (M1.out.on hg).cells
  go_simp
  exact hK.out _ _ hg ⟨nn,nn, fun _ => rfl, nn,nn,nn,nn,nn,nn,nn,nn,nn,nn,nn,nn,nn,nn,nn,nn,nn,nn⟩ (fun _ _ h => h)
 case s3 =>
  intro a w' hoff hg hdep K hK
  obtain ⟨v2, e2, f2⟩ := hdep 2 _ 15 (by kernel_rfl) rfl rfl
  obtain rfl := (f2.2.2.1 rfl).symm
  obtain ⟨v1, e1, f1⟩ := hdep 1 _ 14 (by kernel_rfl) rfl rfl
  obtain rfl := (f1.2.1 rfl).symm
  rw [if_pos (by simp [Region.wanted, yielded, e1])]
  go_simp
  refine (prRight_any z0 (fun k => k < w6.heap.size) w' _ _ _ (fun k hk => Nat.lt_of_lt_of_le hk hg.size) (RepPr.on (fun _ h => h) (fun k hk => hg.block k hk) R0.out)).mono ?_
  rw [HR0.out]
  rintro e w2' ⟨rfl, hb⟩
  exact hK.out _ _ (Below.step hg hb) ⟨nn,nn,nn, fun _ => rfl, nn,nn,nn,nn,nn,nn,nn,nn,nn,nn,nn,nn,nn,nn,nn,nn,nn⟩ (fun _ _ h => ⟨h.1, h.2.1, h.2.2.1, h.2.2.2.1, h.2.2.2.2.1, h.2.2.2.2.2.1, h.2.2.2.2.2.2.1, h.2.2.2.2.2.2.2.1, h.2.2.2.2.2.2.2.2.1, h.2.2.2.2.2.2.2.2.2.1, h.2.2.2.2.2.2.2.2.2.2.1, h.2.2.2.2.2.2.2.2.2.2.2.1, h.2.2.2.2.2.2.2.2.2.2.2.2.1, h.2.2.2.2.2.2.2.2.2.2.2.2.2.1, h.2.2.2.2.2.2.2.2.2.2.2.2.2.2.1, h.2.2.2.2.2.2.2.2.2.2.2.2.2.2.2.1, h.2.2.2.2.2.2.2.2.2.2.2.2.2.2.2.2.1, h.2.2.2.2.2.2.2.2.2.2.2.2.2.2.2.2.2.1, h.2.2.2.2.2.2.2.2.2.2.2.2.2.2.2.2.2.2.1, h.2.2.2.2.2.2.2.2.2.2.2.2.2.2.2.2.2.2.2.1, h.2.2.2.2.2.2.2.2.2.2.2.2.2.2.2.2.2.2.2.2⟩)
 case s4 =>
  intro a w' hoff hg hdep K hK
  obtain ⟨v1, e1, f1⟩ := hdep 1 _ 14 (by kernel_rfl) rfl rfl
  obtain rfl := (f1.2.1 rfl).symm
  obtain ⟨v3, e3, f3⟩ := hdep 3 _ 16 (by kernel_rfl) rfl rfl
  obtain rfl := (f3.2.2.2.1 rfl).symm
  rw [if_pos (by rfl)]
  go_simp
  exact hK.out _ _ hg ⟨nn,nn,nn,nn, fun _ => rfl, nn,nn,nn,nn,nn,nn,nn,nn,nn,nn,nn,nn,nn,nn,nn,nn⟩ (fun _ _ h => h)
 case s5 =>
  intro a w' hoff hg hdep K hK
  obtain ⟨v4, e4, f4⟩ := hdep 4 _ 17 (by kernel_rfl) rfl rfl
  obtain rfl := (f4.2.2.2.2.1 rfl).symm
  rw [if_pos (by rfl)]
  go_simp
  exact hK.out _ _ hg ⟨nn,nn,nn,nn,nn, fun _ => rfl, nn,nn,nn,nn,nn,nn,nn,nn,nn,nn,nn,nn,nn,nn,nn⟩ (fun _ _ h => h)
 case s6 =>
  intro a w' hoff hg hdep K hK
  have h7 := off_at hoff 7 (v := .pointer (some ⟨k7, 0, none⟩)) (by kernel_rfl) rfl
  obtain ⟨v5, e5, f5⟩ := hdep 5 _ 18 (by kernel_rfl) rfl rfl
  obtain rfl := (f5.2.2.2.2.2.1 rfl).symm
  rw [if_pos (by simp [Region.wanted, yielded, e5])]
  obtain ⟨p0, p1, p2⟩ := (M0.out.on hg).cells; obtain ⟨r0, r1, r2⟩ := (M1.out.on hg).cells
  go_simp
  exact hK.out _ _ hg ⟨nn,nn,nn,nn,nn,nn, fun _ => rfl, nn,nn,nn,nn,nn,nn,nn,nn,nn,nn,nn,nn,nn,nn⟩ (fun _ _ h => h)
 case s7 =>
  intro a w' hoff hg hdep K hK
  obtain ⟨v6, e6, f6⟩ := hdep 6 _ 19 (by kernel_rfl) rfl rfl
  obtain rfl := (f6.2.2.2.2.2.2.1 rfl).symm
  obtain ⟨v5, e5, f5⟩ := hdep 5 _ 18 (by kernel_rfl) rfl rfl
  obtain rfl := (f5.2.2.2.2.2.1 rfl).symm
  rw [if_pos (by simp [Region.wanted, yielded, e5])]
  go_simp
  refine (prRight_any z1 (fun k => k < w6.heap.size) w' _ _ _ (fun k hk => Nat.lt_of_lt_of_le hk hg.size) (RepPr.on (fun _ h => h) (fun k hk => hg.block k hk) R1.out)).mono ?_
  rw [HR1.out]
  rintro e w2' ⟨rfl, hb⟩
  exact hK.out _ _ (Below.step hg hb) ⟨nn,nn,nn,nn,nn,nn,nn, fun _ => rfl, nn,nn,nn,nn,nn,nn,nn,nn,nn,nn,nn,nn,nn⟩ (fun _ _ h => ⟨h.1, h.2.1, h.2.2.1, h.2.2.2.1, h.2.2.2.2.1, h.2.2.2.2.2.1, h.2.2.2.2.2.2.1, h.2.2.2.2.2.2.2.1, h.2.2.2.2.2.2.2.2.1, h.2.2.2.2.2.2.2.2.2.1, h.2.2.2.2.2.2.2.2.2.2.1, h.2.2.2.2.2.2.2.2.2.2.2.1, h.2.2.2.2.2.2.2.2.2.2.2.2.1, h.2.2.2.2.2.2.2.2.2.2.2.2.2.1, h.2.2.2.2.2.2.2.2.2.2.2.2.2.2.1, h.2.2.2.2.2.2.2.2.2.2.2.2.2.2.2.1, h.2.2.2.2.2.2.2.2.2.2.2.2.2.2.2.2.1, h.2.2.2.2.2.2.2.2.2.2.2.2.2.2.2.2.2.1, h.2.2.2.2.2.2.2.2.2.2.2.2.2.2.2.2.2.2.1, h.2.2.2.2.2.2.2.2.2.2.2.2.2.2.2.2.2.2.2.1, h.2.2.2.2.2.2.2.2.2.2.2.2.2.2.2.2.2.2.2.2⟩)
 case s8 =>
  intro a w' hoff hg hdep K hK
  obtain ⟨v5, e5, f5⟩ := hdep 5 _ 18 (by kernel_rfl) rfl rfl
  obtain rfl := (f5.2.2.2.2.2.1 rfl).symm
  obtain ⟨v7, e7, f7⟩ := hdep 7 _ 20 (by kernel_rfl) rfl rfl
  obtain rfl := (f7.2.2.2.2.2.2.2.1 rfl).symm
  rw [if_pos (by rfl)]
  go_simp
  exact hK.out _ _ hg ⟨nn,nn,nn,nn,nn,nn,nn,nn, fun _ => rfl, nn,nn,nn,nn,nn,nn,nn,nn,nn,nn,nn,nn⟩ (fun _ _ h => h)
 case s9 =>
  intro a w' hoff hg hdep K hK
  obtain ⟨v8, e8, f8⟩ := hdep 8 _ 21 (by kernel_rfl) rfl rfl
  obtain rfl := (f8.2.2.2.2.2.2.2.2.1 rfl).symm
  rw [if_pos (by rfl)]
  go_simp
  exact hK.out _ _ hg ⟨nn,nn,nn,nn,nn,nn,nn,nn,nn, fun _ => rfl, nn,nn,nn,nn,nn,nn,nn,nn,nn,nn,nn⟩ (fun _ _ h => h)
 case s10 =>
  intro a w' hoff hg hdep K hK
  have h6 := off_at hoff 6 (v := .pointer (some ⟨k6, 0, none⟩)) (by kernel_rfl) rfl
  obtain ⟨v9, e9, f9⟩ := hdep 9 _ 22 (by kernel_rfl) rfl rfl
  obtain rfl := (f9.2.2.2.2.2.2.2.2.2.1 rfl).symm
  rw [if_pos (by simp [Region.wanted, yielded, e9])]
  obtain ⟨p0, p1, p2⟩ := (M0.out.on hg).cells; obtain ⟨r0, r1, r2⟩ := (M1.out.on hg).cells
  go_simp
  exact hK.out _ _ hg ⟨nn,nn,nn,nn,nn,nn,nn,nn,nn,nn, fun _ => rfl, nn,nn,nn,nn,nn,nn,nn,nn,nn,nn⟩ (fun _ _ h => h)
 case s11 =>
  intro a w' hoff hg hdep K hK
  obtain ⟨v10, e10, f10⟩ := hdep 10 _ 23 (by kernel_rfl) rfl rfl
  obtain rfl := (f10.2.2.2.2.2.2.2.2.2.2.1 rfl).symm
  obtain ⟨v9, e9, f9⟩ := hdep 9 _ 22 (by kernel_rfl) rfl rfl
  obtain rfl := (f9.2.2.2.2.2.2.2.2.2.1 rfl).symm
  rw [if_pos (by simp [Region.wanted, yielded, e9])]
  go_simp
  refine (prPr_any z0 (fun k => k < w6.heap.size) w' _ _ _ (fun k hk => Nat.lt_of_lt_of_le hk hg.size) (Nat.lt_of_lt_of_le HG.out (Below.step B6.out hg).size) (HT.out.below HG.out (Below.step B6.out hg)) (RepPr.on (fun _ h => h) (fun k hk => hg.block k hk) R0.out) (fun h => showPr_fits h)).mono ?_
  rw [told_true HR0.out, HTX.out]
  rintro e w2' ⟨rfl, hb⟩
  exact hK.out _ _ (Below.step hg hb) ⟨nn,nn,nn,nn,nn,nn,nn,nn,nn,nn,nn, fun _ => rfl, nn,nn,nn,nn,nn,nn,nn,nn,nn⟩ (fun _ _ h => ⟨h.1, h.2.1, h.2.2.1, h.2.2.2.1, h.2.2.2.2.1, h.2.2.2.2.2.1, h.2.2.2.2.2.2.1, h.2.2.2.2.2.2.2.1, h.2.2.2.2.2.2.2.2.1, h.2.2.2.2.2.2.2.2.2.1, h.2.2.2.2.2.2.2.2.2.2.1, h.2.2.2.2.2.2.2.2.2.2.2.1, h.2.2.2.2.2.2.2.2.2.2.2.2.1, h.2.2.2.2.2.2.2.2.2.2.2.2.2.1, h.2.2.2.2.2.2.2.2.2.2.2.2.2.2.1, h.2.2.2.2.2.2.2.2.2.2.2.2.2.2.2.1, h.2.2.2.2.2.2.2.2.2.2.2.2.2.2.2.2.1, h.2.2.2.2.2.2.2.2.2.2.2.2.2.2.2.2.2.1, h.2.2.2.2.2.2.2.2.2.2.2.2.2.2.2.2.2.2.1, h.2.2.2.2.2.2.2.2.2.2.2.2.2.2.2.2.2.2.2.1, h.2.2.2.2.2.2.2.2.2.2.2.2.2.2.2.2.2.2.2.2⟩)
 case s12 =>
  intro a w' hoff hg hdep K hK
  have h7 := off_at hoff 7 (v := .pointer (some ⟨k7, 0, none⟩)) (by kernel_rfl) rfl
  obtain ⟨v9, e9, f9⟩ := hdep 9 _ 22 (by kernel_rfl) rfl rfl
  obtain rfl := (f9.2.2.2.2.2.2.2.2.2.1 rfl).symm
  rw [if_pos (by simp [Region.wanted, yielded, e9])]
  obtain ⟨p0, p1, p2⟩ := (M0.out.on hg).cells; obtain ⟨r0, r1, r2⟩ := (M1.out.on hg).cells
  go_simp
  exact hK.out _ _ hg ⟨nn,nn,nn,nn,nn,nn,nn,nn,nn,nn,nn,nn, fun _ => rfl, nn,nn,nn,nn,nn,nn,nn,nn⟩ (fun _ _ h => h)
 case s13 =>
  intro a w' hoff hg hdep K hK
  obtain ⟨v12, e12, f12⟩ := hdep 12 _ 25 (by kernel_rfl) rfl rfl
  obtain rfl := (f12.2.2.2.2.2.2.2.2.2.2.2.2.1 rfl).symm
  obtain ⟨v9, e9, f9⟩ := hdep 9 _ 22 (by kernel_rfl) rfl rfl
  obtain rfl := (f9.2.2.2.2.2.2.2.2.2.1 rfl).symm
  rw [if_pos (by simp [Region.wanted, yielded, e9])]
  go_simp
  refine (prPr_any z1 (fun k => k < w6.heap.size) w' _ _ _ (fun k hk => Nat.lt_of_lt_of_le hk hg.size) (Nat.lt_of_lt_of_le HG.out (Below.step B6.out hg).size) (HT.out.below HG.out (Below.step B6.out hg)) (RepPr.on (fun _ h => h) (fun k hk => hg.block k hk) R1.out) (fun h => showPr_fits h)).mono ?_
  rw [told_true HR1.out, HTY.out]
  rintro e w2' ⟨rfl, hb⟩
  exact hK.out _ _ (Below.step hg hb) ⟨nn,nn,nn,nn,nn,nn,nn,nn,nn,nn,nn,nn,nn, fun _ => rfl, nn,nn,nn,nn,nn,nn,nn⟩ (fun _ _ h => ⟨h.1, h.2.1, h.2.2.1, h.2.2.2.1, h.2.2.2.2.1, h.2.2.2.2.2.1, h.2.2.2.2.2.2.1, h.2.2.2.2.2.2.2.1, h.2.2.2.2.2.2.2.2.1, h.2.2.2.2.2.2.2.2.2.1, h.2.2.2.2.2.2.2.2.2.2.1, h.2.2.2.2.2.2.2.2.2.2.2.1, h.2.2.2.2.2.2.2.2.2.2.2.2.1, h.2.2.2.2.2.2.2.2.2.2.2.2.2.1, h.2.2.2.2.2.2.2.2.2.2.2.2.2.2.1, h.2.2.2.2.2.2.2.2.2.2.2.2.2.2.2.1, h.2.2.2.2.2.2.2.2.2.2.2.2.2.2.2.2.1, h.2.2.2.2.2.2.2.2.2.2.2.2.2.2.2.2.2.1, h.2.2.2.2.2.2.2.2.2.2.2.2.2.2.2.2.2.2.1, h.2.2.2.2.2.2.2.2.2.2.2.2.2.2.2.2.2.2.2.1, h.2.2.2.2.2.2.2.2.2.2.2.2.2.2.2.2.2.2.2.2⟩)
 case s14 =>
  intro a w' hoff hg hdep K hK
  obtain ⟨v11, e11, f11⟩ := hdep 11 _ 24 (by kernel_rfl) rfl rfl
  obtain rfl := (f11.2.2.2.2.2.2.2.2.2.2.2.1 rfl).symm
  obtain ⟨v13, e13, f13⟩ := hdep 13 _ 26 (by kernel_rfl) rfl rfl
  obtain rfl := (f13.2.2.2.2.2.2.2.2.2.2.2.2.2.1 rfl).symm
  obtain ⟨v9, e9, f9⟩ := hdep 9 _ 22 (by kernel_rfl) rfl rfl
  obtain rfl := (f9.2.2.2.2.2.2.2.2.2.1 rfl).symm
  rw [if_pos (by simp [Region.wanted, yielded, e9])]
  have he := HE.out
  go_simp
  exact hK.out _ _ hg ⟨nn,nn,nn,nn,nn,nn,nn,nn,nn,nn,nn,nn,nn,nn, fun _ => rfl, nn,nn,nn,nn,nn,nn⟩ (fun _ _ h => h)
 case s15 =>
  intro a w' hoff hg hdep K hK
  have h6 := off_at hoff 6 (v := .pointer (some ⟨k6, 0, none⟩)) (by kernel_rfl) rfl
  obtain ⟨v9, e9, f9⟩ := hdep 9 _ 22 (by kernel_rfl) rfl rfl
  obtain rfl := (f9.2.2.2.2.2.2.2.2.2.1 rfl).symm
  rw [if_pos (by simp [Region.wanted, yielded, e9])]
  obtain ⟨p0, p1, p2⟩ := (M0.out.on hg).cells; obtain ⟨r0, r1, r2⟩ := (M1.out.on hg).cells
  go_simp
  exact hK.out _ _ hg ⟨nn,nn,nn,nn,nn,nn,nn,nn,nn,nn,nn,nn,nn,nn,nn, fun _ => rfl, nn,nn,nn,nn,nn⟩ (fun _ _ h => h)
 case s16 =>
  intro a w' hoff hg hdep K hK
  have h7 := off_at hoff 7 (v := .pointer (some ⟨k7, 0, none⟩)) (by kernel_rfl) rfl
  obtain ⟨v9, e9, f9⟩ := hdep 9 _ 22 (by kernel_rfl) rfl rfl
  obtain rfl := (f9.2.2.2.2.2.2.2.2.2.1 rfl).symm
  rw [if_pos (by simp [Region.wanted, yielded, e9])]
  obtain ⟨p0, p1, p2⟩ := (M0.out.on hg).cells; obtain ⟨r0, r1, r2⟩ := (M1.out.on hg).cells
  go_simp
  exact hK.out _ _ hg ⟨nn,nn,nn,nn,nn,nn,nn,nn,nn,nn,nn,nn,nn,nn,nn,nn, fun _ => rfl, nn,nn,nn,nn⟩ (fun _ _ h => h)
 case s17 =>
  intro a w' hoff hg hdep K hK
  obtain ⟨v15, e15, f15⟩ := hdep 15 _ 28 (by kernel_rfl) rfl rfl
  obtain rfl := (f15.2.2.2.2.2.2.2.2.2.2.2.2.2.2.2.1 rfl).symm
  obtain ⟨v16, e16, f16⟩ := hdep 16 _ 29 (by kernel_rfl) rfl rfl
  obtain rfl := (f16.2.2.2.2.2.2.2.2.2.2.2.2.2.2.2.2.1 rfl).symm
  obtain ⟨v9, e9, f9⟩ := hdep 9 _ 22 (by kernel_rfl) rfl rfl
  obtain rfl := (f9.2.2.2.2.2.2.2.2.2.1 rfl).symm
  rw [if_pos (by simp [Region.wanted, yielded, e9])]
  go_simp
  refine (samePr_any z0 z1 (fun k => k < w6.heap.size) w' _ _ _ _ _ _ (fun k hk => Nat.lt_of_lt_of_le hk hg.size) (RepPr.on (fun _ h => h) (fun k hk => hg.block k hk) R0.out) (RepPr.on (fun _ h => h) (fun k hk => hg.block k hk) R1.out) (pr_few HR0.out)).mono ?_
  rw [HV.out]
  rintro e w2' ⟨rfl, hb⟩
  exact hK.out _ _ (Below.step hg hb) ⟨nn,nn,nn,nn,nn,nn,nn,nn,nn,nn,nn,nn,nn,nn,nn,nn,nn, fun _ => rfl, nn,nn,nn⟩ (fun _ _ h => ⟨h.1, h.2.1, h.2.2.1, h.2.2.2.1, h.2.2.2.2.1, h.2.2.2.2.2.1, h.2.2.2.2.2.2.1, h.2.2.2.2.2.2.2.1, h.2.2.2.2.2.2.2.2.1, h.2.2.2.2.2.2.2.2.2.1, h.2.2.2.2.2.2.2.2.2.2.1, h.2.2.2.2.2.2.2.2.2.2.2.1, h.2.2.2.2.2.2.2.2.2.2.2.2.1, h.2.2.2.2.2.2.2.2.2.2.2.2.2.1, h.2.2.2.2.2.2.2.2.2.2.2.2.2.2.1, h.2.2.2.2.2.2.2.2.2.2.2.2.2.2.2.1, h.2.2.2.2.2.2.2.2.2.2.2.2.2.2.2.2.1, h.2.2.2.2.2.2.2.2.2.2.2.2.2.2.2.2.2.1, h.2.2.2.2.2.2.2.2.2.2.2.2.2.2.2.2.2.2.1, h.2.2.2.2.2.2.2.2.2.2.2.2.2.2.2.2.2.2.2.1, h.2.2.2.2.2.2.2.2.2.2.2.2.2.2.2.2.2.2.2.2⟩)
 case s18 =>
  intro a w' hoff hg hdep K hK
  obtain ⟨v14, e14, f14⟩ := hdep 14 _ 27 (by kernel_rfl) rfl rfl
  obtain rfl := (f14.2.2.2.2.2.2.2.2.2.2.2.2.2.2.1 rfl).symm
  obtain ⟨v17, e17, f17⟩ := hdep 17 _ 30 (by kernel_rfl) rfl rfl
  obtain rfl := (f17.2.2.2.2.2.2.2.2.2.2.2.2.2.2.2.2.2.1 rfl).symm
  obtain ⟨v9, e9, f9⟩ := hdep 9 _ 22 (by kernel_rfl) rfl rfl
  obtain rfl := (f9.2.2.2.2.2.2.2.2.2.1 rfl).symm
  rw [if_pos (by simp [Region.wanted, yielded, e9])]
  go_simp
  exact hK.out _ _ hg ⟨nn,nn,nn,nn,nn,nn,nn,nn,nn,nn,nn,nn,nn,nn,nn,nn,nn,nn, fun _ => rfl, nn,nn⟩ (fun _ _ h => h)
 case s19 =>
  intro a w' hoff hg hdep K hK
  obtain ⟨v9, e9, f9⟩ := hdep 9 _ 22 (by kernel_rfl) rfl rfl
  obtain rfl := (f9.2.2.2.2.2.2.2.2.2.1 rfl).symm
  obtain ⟨v18, e18, f18⟩ := hdep 18 _ 31 (by kernel_rfl) rfl rfl
  obtain rfl := (f18.2.2.2.2.2.2.2.2.2.2.2.2.2.2.2.2.2.2.1 rfl).symm
  rw [if_pos (by rfl)]
  go_simp
  exact hK.out _ _ hg ⟨nn,nn,nn,nn,nn,nn,nn,nn,nn,nn,nn,nn,nn,nn,nn,nn,nn,nn,nn, fun _ => rfl, nn⟩ (fun _ _ h => h)
 case s20 =>
  intro a w' hoff hg hdep K hK
  obtain ⟨v19, e19, f19⟩ := hdep 19 _ 32 (by kernel_rfl) rfl rfl
  obtain rfl := (f19.2.2.2.2.2.2.2.2.2.2.2.2.2.2.2.2.2.2.2.1 rfl).symm
  rw [if_pos (by rfl)]
  go_simp
  exact hK.out _ _ hg ⟨nn,nn,nn,nn,nn,nn,nn,nn,nn,nn,nn,nn,nn,nn,nn,nn,nn,nn,nn,nn, fun _ => rfl⟩ (fun _ _ h => h)
 case fin =>
  intro a w9 hoff hg hf
  obtain ⟨v0, e0, f0⟩ := hf 0 _ 13 rfl rfl
  obtain rfl := (f0.1 rfl).symm
  obtain ⟨v1, e1, f1⟩ := hf 1 _ 14 rfl rfl
  obtain rfl := (f1.2.1 rfl).symm
  obtain ⟨v2, e2, f2⟩ := hf 2 _ 15 rfl rfl
  obtain rfl := (f2.2.2.1 rfl).symm
  obtain ⟨v3, e3, f3⟩ := hf 3 _ 16 rfl rfl
  obtain rfl := (f3.2.2.2.1 rfl).symm
  obtain ⟨v4, e4, f4⟩ := hf 4 _ 17 rfl rfl
  obtain rfl := (f4.2.2.2.2.1 rfl).symm
  obtain ⟨v5, e5, f5⟩ := hf 5 _ 18 rfl rfl
  obtain rfl := (f5.2.2.2.2.2.1 rfl).symm
  obtain ⟨v6, e6, f6⟩ := hf 6 _ 19 rfl rfl
  obtain rfl := (f6.2.2.2.2.2.2.1 rfl).symm
  obtain ⟨v7, e7, f7⟩ := hf 7 _ 20 rfl rfl
  obtain rfl := (f7.2.2.2.2.2.2.2.1 rfl).symm
  obtain ⟨v8, e8, f8⟩ := hf 8 _ 21 rfl rfl
  obtain rfl := (f8.2.2.2.2.2.2.2.2.1 rfl).symm
  obtain ⟨v9, e9, f9⟩ := hf 9 _ 22 rfl rfl
  obtain rfl := (f9.2.2.2.2.2.2.2.2.2.1 rfl).symm
  obtain ⟨v10, e10, f10⟩ := hf 10 _ 23 rfl rfl
  obtain rfl := (f10.2.2.2.2.2.2.2.2.2.2.1 rfl).symm
  obtain ⟨v11, e11, f11⟩ := hf 11 _ 24 rfl rfl
  obtain rfl := (f11.2.2.2.2.2.2.2.2.2.2.2.1 rfl).symm
  obtain ⟨v12, e12, f12⟩ := hf 12 _ 25 rfl rfl
  obtain rfl := (f12.2.2.2.2.2.2.2.2.2.2.2.2.1 rfl).symm
  obtain ⟨v13, e13, f13⟩ := hf 13 _ 26 rfl rfl
  obtain rfl := (f13.2.2.2.2.2.2.2.2.2.2.2.2.2.1 rfl).symm
  obtain ⟨v14, e14, f14⟩ := hf 14 _ 27 rfl rfl
  obtain rfl := (f14.2.2.2.2.2.2.2.2.2.2.2.2.2.2.1 rfl).symm
  obtain ⟨v15, e15, f15⟩ := hf 15 _ 28 rfl rfl
  obtain rfl := (f15.2.2.2.2.2.2.2.2.2.2.2.2.2.2.2.1 rfl).symm
  obtain ⟨v16, e16, f16⟩ := hf 16 _ 29 rfl rfl
  obtain rfl := (f16.2.2.2.2.2.2.2.2.2.2.2.2.2.2.2.2.1 rfl).symm
  obtain ⟨v17, e17, f17⟩ := hf 17 _ 30 rfl rfl
  obtain rfl := (f17.2.2.2.2.2.2.2.2.2.2.2.2.2.2.2.2.2.1 rfl).symm
  obtain ⟨v18, e18, f18⟩ := hf 18 _ 31 rfl rfl
  obtain rfl := (f18.2.2.2.2.2.2.2.2.2.2.2.2.2.2.2.2.2.2.1 rfl).symm
  obtain ⟨v19, e19, f19⟩ := hf 19 _ 32 rfl rfl
  obtain rfl := (f19.2.2.2.2.2.2.2.2.2.2.2.2.2.2.2.2.2.2.2.1 rfl).symm
  obtain ⟨v20, e20, f20⟩ := hf 20 _ 4 rfl rfl
  obtain rfl := (f20.2.2.2.2.2.2.2.2.2.2.2.2.2.2.2.2.2.2.2.2 rfl).symm
  rw [hoff.sets [(13, .bool true), (14, .bool true), (15, .agg #[.slice h0 z0.decls.length h1, .slice h2 z0.facts.length h3, .slice h4 z0.rules.length h5]), (16, .bool true), (17, .bool true), (18, .bool true), (19, .agg #[.slice i0 z1.decls.length i1, .slice i2 z1.facts.length i3, .slice i4 z1.rules.length i5]), (20, .bool true), (21, .bool true), (22, .bool true), (23, .agg #[.slice h0 z0.decls.length h1, .slice h2 z0.facts.length h3, .slice h4 z0.rules.length h5]), (24, .string TX), (25, .agg #[.slice i0 z1.decls.length i1, .slice i2 z1.facts.length i3, .slice i4 z1.rules.length i5]), (26, .string TY), (27, .bool v), (28, .agg #[.slice h0 z0.decls.length h1, .slice h2 z0.facts.length h3, .slice h4 z0.rules.length h5]), (29, .agg #[.slice i0 z1.decls.length i1, .slice i2 z1.facts.length i3, .slice i4 z1.rules.length i5]), (30, .bool v), (31, .bool true), (32, .bool true), (4, .bool true)] (by kernel_rfl) (by intro p hp; simp only [List.mem_cons, List.not_mem_nil, or_false] at hp; rcases hp with rfl | rfl | rfl | rfl | rfl | rfl | rfl | rfl | rfl | rfl | rfl | rfl | rfl | rfl | rfl | rfl | rfl | rfl | rfl | rfl | rfl <;> assumption)]
  clear hoff hf e0 f0 e1 f1 e2 f2 e3 f3 e4 f4 e5 f5 e6 f6 e7 f7 e8 f8 e9 f9 e10 f10 e11 f11 e12 f12 e13 f13 e14 f14 e15 f15 e16 f16 e17 f17 e18 f18 e19 f19 e20 f20
  simp only [List.foldl_cons, List.foldl_nil, List.setIfInBounds_toArray, List.set_cons_zero, List.set_cons_succ]
  have B9 := Lib.hid (Below.step B6.out hg)
  clear hg
  go_wp2_with fail
  go_ret
  exact ⟨rfl, B9.out⟩
end Go.Proofs.YtgjemmdhamkngaaGreatDoor.printerApart
