/-
  SixLitTest
-/
import Derived.Test.YtjohcnhiblfbnaaGreatDoorR05
import Derived.Test.YtjohcnhiblfbnaaGreatDoorR07
namespace Go.Proofs.YtjohcnhiblfbnaaGreatDoor
open Go.RowKit
set_option maxRecDepth 100000 in
set_option maxHeartbeats 20000000 in
theorem literal_test (x : Rw) (w : World) (hx : RwOk x) (h5 : pickZ x.kind 8 = 5 ∨ pickZ x.kind 8 = 6) : Calls Tryz.prog 54 #[rwV x] w (MadeLi (litZ x) w) := by
 have HX := Lib.hid hx
 rw [rwV]
 go_enter Tryz.func54, Tryz.ntmps54
 go_wp2_with fail
 have x1 := boxRw_new w x; have b1 := below_alloc w (.cells #[.int .i64 x.kind, .int .i64 x.name, .int .i64 x.n0, .int .i64 x.n1, .int .i64 x.n2, .int .i64 x.n3] 74)
 have s1 := World.size_alloc w (.cells #[.int .i64 x.kind, .int .i64 x.name, .int .i64 x.n0, .int .i64 x.n1, .int .i64 x.n2, .int .i64 x.n3] 74)
 generalize w.alloc (.cells #[.int .i64 x.kind, .int .i64 x.name, .int .i64 x.n0, .int .i64 x.n1, .int .i64 x.n2, .int .i64 x.n3] 74) = wa at *
 have r2 := boxLi_new wa (.int .i64 0) (.string ⟨#[]⟩) (.slice none 0 0); have b2 := below_alloc wa (.cells #[.int .i64 0, .string ⟨#[]⟩, .slice none 0 0] 46)
 have s2 := World.size_alloc wa (.cells #[.int .i64 0, .string ⟨#[]⟩, .slice none 0 0] 46)
 generalize wa.alloc (.cells #[.int .i64 0, .string ⟨#[]⟩, .slice none 0 0] 46) = wb at *
 rw [s1] at r2
 have X0 := Lib.hid (x1.on b2); have R0 := Lib.hid r2; have B0 := Lib.hid (Below.step b1 b2)
 have HSB : Hid (w.heap.size + 2 ≤ wb.heap.size) := by show _ ≤ _; omega
 clear x1 b1 s1 r2 b2 s2
 obtain ⟨p0, p1, p2, p3, p4, p5⟩ := X0.out.cells
 go_wp2_with fail
 refine (atom_any x wb HX.out).mono ?_
 rintro e w1 ⟨lv, rfl, hm, hb⟩
 have X1 := Lib.hid (X0.out.on hb); have R1 := Lib.hid (R0.out.on hb); have B1 := Lib.hid (Below.step B0.out hb)
 have HS1 : Hid (w.heap.size + 2 ≤ w1.heap.size) := Nat.le_trans HSB.out hb.size
 have HM1 := Lib.hid hm
 obtain ⟨la, lc, rfl⟩ := OwnK.form hm
 clear hm hb p0 p1 p2 p3 p4 p5 X0 R0 B0
 obtain ⟨p0, p1, p2, p3, p4, p5⟩ := X1.out.cells
 go_wp2_with fail
 refine (pick6_any x.kind 8 _ HX.out.1 (by omega) (by omega)).mono ?_
 rintro e w' ⟨rfl, rfl⟩
 have hjb := pickZ_bd x.name 6 (by omega)
 obtain ⟨j, hj⟩ := Int.eq_ofNat_of_zero_le hjb.1
 have hj6 : j < 6 := by omega
 have HJ := Lib.hid hj
 have hn4 := pickZ_bd x.n2 4 (by omega)
 have HN4 : Hid (I64 (pickZ x.n2 4)) := ⟨by omega, by omega⟩
 have hm2 := pickZ_bd x.n3 2 (by omega)
 have hm : pickZ x.n3 2 = 0 ∨ pickZ x.n3 2 = 1 := by omega
 have HLZ : Hid (litZ x = ⟨3, cmp6 j, [vZ x.n0, if pickZ x.n3 2 = 0 then numZ (pickZ x.n2 4) else vZ x.n1]⟩) := by
  show _ = _
  rw [litZ, if_neg (by omega), if_neg (by omega), if_pos (by omega), hj]; simp
 have hk0 : (pickZ x.kind 8 == 0) = false := by simp; omega
 have hk1 : (pickZ x.kind 8 == 1) = false := by simp; omega
 have hk2 : (pickZ x.kind 8 == 2) = false := by simp; omega
 have hk3 : (pickZ x.kind 8 == 3) = false := by simp; omega
 have hk4 : (pickZ x.kind 8 == 4) = false := by simp; omega
 have hk56 : (pickZ x.kind 8 == 5) = true ∨ ((pickZ x.kind 8 == 5) = false ∧ (pickZ x.kind 8 == 6) = true) := by
  rcases h5 with h | h <;> simp [h]
 have HH5 := Lib.hid hk56
 clear hjb hj hn4 hm2 h5 hk56 hx
 generalize pickZ x.kind 8 = P at *
 have b2 := below_alloc w1 (.cells #[.string ⟨#[61, 61]⟩, .string ⟨#[33, 61]⟩, .string ⟨#[60]⟩, .string ⟨#[60, 61]⟩, .string ⟨#[62]⟩, .string ⟨#[62, 61]⟩] 9)
 have X2 := Lib.hid (X1.out.on b2)
 obtain ⟨q0, q1, q2, q3, q4, q5⟩ := X2.out.cells
 have B2 := Lib.hid (Below.step B1.out b2); have R2 := Lib.hid (R1.out.on b2)
 have HSZ : Hid (w.heap.size + 2 ≤ (w1.alloc (.cells #[.string ⟨#[61, 61]⟩, .string ⟨#[33, 61]⟩, .string ⟨#[60]⟩, .string ⟨#[60, 61]⟩, .string ⟨#[62]⟩, .string ⟨#[62, 61]⟩] 9)).heap.size) := Nat.le_trans HS1.out b2.size
 have pj : (w1.alloc (.cells #[.string ⟨#[61, 61]⟩, .string ⟨#[33, 61]⟩, .string ⟨#[60]⟩, .string ⟨#[60, 61]⟩, .string ⟨#[62]⟩, .string ⟨#[62, 61]⟩] 9)).cell? ⟨w1.heap.size, j, none⟩ = some (.string (cmp6 j)) := cell_of_block' (alloc_new' w1 _) _ (cmp_at hj6)
 have PJ := Lib.hid pj
 clear b2 pj
 have hkk : True := trivial
 rcases HH5.out with hk5 | ⟨hk5, hk6⟩
 all_goals
  go_wp2_with fail
  refine (pick6_any x.name 6 _ HX.out.2.1 (by omega) (by omega)).mono ?_
  rintro e w' ⟨rfl, rfl⟩
  rw [HJ.out]
  have pj := PJ.out
  have hj0 : (0 : Int) ≤ (j : Int) := by omega
  have hj1 : (j : Int) < 6 := by omega
  clear p0 p1 p2 p3 p4 p5 q0 q1 q2 q3 q4 q5 PJ
  generalize w1.alloc (.cells #[.string ⟨#[61, 61]⟩, .string ⟨#[33, 61]⟩, .string ⟨#[60]⟩, .string ⟨#[60, 61]⟩, .string ⟨#[62]⟩, .string ⟨#[62, 61]⟩] 9) = w2 at *
  go_wp2_with fail
  clear pj hj0 hj1 hk0 hk1 hk2 hk3 hk4
  rcases hm with hm | hm
  ·rw [if_pos hm] at HLZ
   have HM := Lib.hid hm
   clear hm
   refine wp_region_factsL (by rfl) 92 (by rfl) (by kernel_rfl) (FA [.e (.string (cmp6 j)), .e (.pointer (some ⟨w.heap.size, 2, none⟩)), .e (.pointer (some ⟨w.heap.size, 2, none⟩)), .e (.int .i64 x.n0), .e (.agg #[.int .i64 1, .string (vName (pickZ (x.n0) 6).toNat), .int .i64 0, .int .i64 0, .string ⟨#[]⟩, .slice none 0 0, .slice none 0 0]), .e (.pointer (some ⟨w.heap.size, 2, none⟩)), .e (.pointer (some ⟨w.heap.size, 4, none⟩)), .e (.int .i64 x.n2), .e (.int .i64 (pickZ x.n2 4)), .e (.agg #[.int .i64 2, .string ⟨#[]⟩, .int .i64 1, .int .i64 (pickZ x.n2 4), .string ⟨#[]⟩, .slice none 0 0, .slice none 0 0]), .e (.pointer (some ⟨w.heap.size, 2, none⟩)), .e (.pointer (some ⟨w.heap.size, 3, none⟩)), .e (.int .i64 x.n1), .e (.agg #[.int .i64 1, .string (vName (pickZ (x.n1) 6).toNat), .int .i64 0, .int .i64 0, .string ⟨#[]⟩, .slice none 0 0, .slice none 0 0]), .p (TwoAt #[.int .i64 2, .string ⟨#[]⟩, .int .i64 1, .int .i64 (pickZ x.n2 4), .string ⟨#[]⟩, .slice none 0 0, .slice none 0 0, .int .i64 1, .string (vName (pickZ (x.n1) 6).toNat), .int .i64 0, .int .i64 0, .string ⟨#[]⟩, .slice none 0 0, .slice none 0 0]), .e (.pointer (some ⟨w.heap.size, 2, none⟩)), .e (.pointer (some ⟨w.heap.size, 5, none⟩)), .e (.int .i64 x.n3), .e (.int .i64 0), .p (TmPtr 0 (.int .i64 2) (.string ⟨#[]⟩) (.int .i64 1) (.int .i64 (pickZ x.n2 4)) (.string ⟨#[]⟩) (.slice none 0 0) (.slice none 0 0)), .e (.agg #[.int .i64 2, .string ⟨#[]⟩, .int .i64 1, .int .i64 (pickZ x.n2 4), .string ⟨#[]⟩, .slice none 0 0, .slice none 0 0]), .p (RowSix (w.heap.size + 2) [vTm (pickZ x.n0 6).toNat, numZ (pickZ x.n2 4)]), .p fun wz vz => ∃ sl, vz = .agg #[.int .i64 3, .string (cmp6 j), sl] ∧ RowSix (w.heap.size + 2) [vTm (pickZ x.n0 6).toNat, numZ (pickZ x.n2 4)] wz sl]) (fun w' => Below w2.heap.size w2 w') (Below.drew (Below.refl _ _)) ⟨?s0, ?s1, ?s2, ?s3, ?s4, ?s5, ?s6, ?s7, ?s8, ?s9, ?s10, ?s11, ?s12, ?s13, ?s14, ?s15, ?s16, ?s17, ?s18, ?s19, ?s20, ?s21, ?s22, trivial⟩ (by rfl) ?last (by decide)
   case s0 =>
    intro a w' hoff hg hdep K hK
    have h5 := off_at hoff 5 (v := .string (cmp6 j)) (by kernel_rfl) rfl
    rw [if_pos (by rfl)]
    go_simp
    exact hK.out _ _ hg rfl (fun _ _ h => h)
   case s1 =>
    intro a w' hoff hg hdep K hK
    have h1 := off_at hoff 1 (v := .pointer (some ⟨w.heap.size, 0, none⟩)) (by kernel_rfl) rfl
    rw [if_pos (by rfl)]
    go_simp
    exact hK.out _ _ hg rfl (fun _ _ h => h)
   case s2 =>
    intro a w' hoff hg hdep K hK
    obtain ⟨_, e1, rfl⟩ := hdep 1 _ 37 (by kernel_rfl) rfl rfl
    rw [if_pos (by rfl)]
    go_simp
    exact hK.out _ _ hg rfl (fun _ _ h => h)
   case s3 =>
    intro a w' hoff hg hdep K hK
    obtain ⟨_, e2, rfl⟩ := hdep 2 _ 38 (by kernel_rfl) rfl rfl
    rw [if_pos (by rfl)]
    obtain ⟨p0, p1, p2, p3, p4, p5⟩ := (X2.out.on hg).cells
    go_simp
    exact hK.out _ _ hg rfl (fun _ _ h => h)
   case s4 =>
    intro a w' hoff hg hdep K hK
    obtain ⟨_, e3, rfl⟩ := hdep 3 _ 39 (by kernel_rfl) rfl rfl
    rw [if_pos (by rfl)]
    go_simp
    refine (v_any (x.n0) w' HX.out.2.2.1).mono ?_
    rintro e w2' ⟨rfl, hb⟩
    exact hK.out _ _ (Below.step hg hb) rfl (fSt ⟨fun _ h => TwoAt.stay hb h, fun _ h => TmPtr.stay hb h, fun _ h => RowSix.stay hb h, fun _ h => h.elim fun sl hs => ⟨sl, hs.1, RowSix.stay hb hs.2⟩, trivial⟩)
   case s5 =>
    intro a w' hoff hg hdep K hK
    have h1 := off_at hoff 1 (v := .pointer (some ⟨w.heap.size, 0, none⟩)) (by kernel_rfl) rfl
    rw [if_pos (by rfl)]
    go_simp
    exact hK.out _ _ hg rfl (fun _ _ h => h)
   case s6 =>
    intro a w' hoff hg hdep K hK
    obtain ⟨_, e5, rfl⟩ := hdep 5 _ 41 (by kernel_rfl) rfl rfl
    rw [if_pos (by rfl)]
    go_simp
    exact hK.out _ _ hg rfl (fun _ _ h => h)
   case s7 =>
    intro a w' hoff hg hdep K hK
    obtain ⟨_, e6, rfl⟩ := hdep 6 _ 42 (by kernel_rfl) rfl rfl
    rw [if_pos (by rfl)]
    obtain ⟨p0, p1, p2, p3, p4, p5⟩ := (X2.out.on hg).cells
    go_simp
    exact hK.out _ _ hg rfl (fun _ _ h => h)
   case s8 =>
    intro a w' hoff hg hdep K hK
    obtain ⟨_, e7, rfl⟩ := hdep 7 _ 43 (by kernel_rfl) rfl rfl
    rw [if_pos (by rfl)]
    go_simp
    refine (pick6_any (x.n2) 4 w' HX.out.2.2.2.2.1 (by omega) (by omega)).mono ?_
    rintro e w2' ⟨rfl, rfl⟩
    have hb := Below.refl w'.heap.size w'
    exact hK.out _ _ (Below.step hg hb) rfl (fSt ⟨fun _ h => TwoAt.stay hb h, fun _ h => TmPtr.stay hb h, fun _ h => RowSix.stay hb h, fun _ h => h.elim fun sl hs => ⟨sl, hs.1, RowSix.stay hb hs.2⟩, trivial⟩)
   case s9 =>
    intro a w' hoff hg hdep K hK
    obtain ⟨_, e8, rfl⟩ := hdep 8 _ 44 (by kernel_rfl) rfl rfl
    rw [if_pos (by rfl)]
    go_simp
    refine (num_any (pickZ x.n2 4) w').mono ?_
    rintro e w2' ⟨rfl, hb⟩
    exact hK.out _ _ (Below.step hg hb) rfl (fSt ⟨fun _ h => TwoAt.stay hb h, fun _ h => TmPtr.stay hb h, fun _ h => RowSix.stay hb h, fun _ h => h.elim fun sl hs => ⟨sl, hs.1, RowSix.stay hb hs.2⟩, trivial⟩)
   case s10 =>
    intro a w' hoff hg hdep K hK
    have h1 := off_at hoff 1 (v := .pointer (some ⟨w.heap.size, 0, none⟩)) (by kernel_rfl) rfl
    rw [if_pos (by rfl)]
    go_simp
    exact hK.out _ _ hg rfl (fun _ _ h => h)
   case s11 =>
    intro a w' hoff hg hdep K hK
    obtain ⟨_, e10, rfl⟩ := hdep 10 _ 46 (by kernel_rfl) rfl rfl
    rw [if_pos (by rfl)]
    go_simp
    exact hK.out _ _ hg rfl (fun _ _ h => h)
   case s12 =>
    intro a w' hoff hg hdep K hK
    obtain ⟨_, e11, rfl⟩ := hdep 11 _ 47 (by kernel_rfl) rfl rfl
    rw [if_pos (by rfl)]
    obtain ⟨p0, p1, p2, p3, p4, p5⟩ := (X2.out.on hg).cells
    go_simp
    exact hK.out _ _ hg rfl (fun _ _ h => h)
   case s13 =>
    intro a w' hoff hg hdep K hK
    obtain ⟨_, e12, rfl⟩ := hdep 12 _ 48 (by kernel_rfl) rfl rfl
    rw [if_pos (by rfl)]
    go_simp
    refine (v_any (x.n1) w' HX.out.2.2.2.1).mono ?_
    rintro e w2' ⟨rfl, hb⟩
    exact hK.out _ _ (Below.step hg hb) rfl (fSt ⟨fun _ h => TwoAt.stay hb h, fun _ h => TmPtr.stay hb h, fun _ h => RowSix.stay hb h, fun _ h => h.elim fun sl hs => ⟨sl, hs.1, RowSix.stay hb hs.2⟩, trivial⟩)
   case s14 =>
    intro a w' hoff hg hdep K hK
    obtain ⟨_, e9, rfl⟩ := hdep 9 _ 45 (by kernel_rfl) rfl rfl
    obtain ⟨_, e13, rfl⟩ := hdep 13 _ 49 (by kernel_rfl) rfl rfl
    rw [if_pos (by rfl)]
    go_simp
    have hb := below_alloc w' (.cells #[.int .i64 2, .string ⟨#[]⟩, .int .i64 1, .int .i64 (pickZ x.n2 4), .string ⟨#[]⟩, .slice none 0 0, .slice none 0 0, .int .i64 1, .string (vName (pickZ (x.n1) 6).toNat), .int .i64 0, .int .i64 0, .string ⟨#[]⟩, .slice none 0 0, .slice none 0 0] 52)
    have hp : TwoAt #[.int .i64 2, .string ⟨#[]⟩, .int .i64 1, .int .i64 (pickZ x.n2 4), .string ⟨#[]⟩, .slice none 0 0, .slice none 0 0, .int .i64 1, .string (vName (pickZ (x.n1) 6).toNat), .int .i64 0, .int .i64 0, .string ⟨#[]⟩, .slice none 0 0, .slice none 0 0] (w'.alloc (.cells #[.int .i64 2, .string ⟨#[]⟩, .int .i64 1, .int .i64 (pickZ x.n2 4), .string ⟨#[]⟩, .slice none 0 0, .slice none 0 0, .int .i64 1, .string (vName (pickZ (x.n1) 6).toNat), .int .i64 0, .int .i64 0, .string ⟨#[]⟩, .slice none 0 0, .slice none 0 0] 52)) (.slice (some ⟨w'.heap.size, 0, none⟩) 2 2) := ⟨_, rfl, alloc_new' _ _⟩
    exact hK.out _ _ (Below.step hg hb) hp (fSt ⟨fun _ h => TwoAt.stay hb h, fun _ h => TmPtr.stay hb h, fun _ h => RowSix.stay hb h, fun _ h => h.elim fun sl hs => ⟨sl, hs.1, RowSix.stay hb hs.2⟩, trivial⟩)
   case s15 =>
    intro a w' hoff hg hdep K hK
    have h1 := off_at hoff 1 (v := .pointer (some ⟨w.heap.size, 0, none⟩)) (by kernel_rfl) rfl
    rw [if_pos (by rfl)]
    go_simp
    exact hK.out _ _ hg rfl (fun _ _ h => h)
   case s16 =>
    intro a w' hoff hg hdep K hK
    obtain ⟨_, e15, rfl⟩ := hdep 15 _ 51 (by kernel_rfl) rfl rfl
    rw [if_pos (by rfl)]
    go_simp
    exact hK.out _ _ hg rfl (fun _ _ h => h)
   case s17 =>
    intro a w' hoff hg hdep K hK
    obtain ⟨_, e16, rfl⟩ := hdep 16 _ 52 (by kernel_rfl) rfl rfl
    rw [if_pos (by rfl)]
    obtain ⟨p0, p1, p2, p3, p4, p5⟩ := (X2.out.on hg).cells
    go_simp
    exact hK.out _ _ hg rfl (fun _ _ h => h)
   case s18 =>
    intro a w' hoff hg hdep K hK
    obtain ⟨_, e17, rfl⟩ := hdep 17 _ 53 (by kernel_rfl) rfl rfl
    rw [if_pos (by rfl)]
    go_simp
    refine (pick6_any (x.n3) 2 w' HX.out.2.2.2.2.2 (by omega) (by omega)).mono ?_
    rintro e w2' ⟨rfl, rfl⟩
    rw [HM.out]
    have hb := Below.refl w'.heap.size w'
    exact hK.out _ _ (Below.step hg hb) rfl (fSt ⟨fun _ h => TwoAt.stay hb h, fun _ h => TmPtr.stay hb h, fun _ h => RowSix.stay hb h, fun _ h => h.elim fun sl hs => ⟨sl, hs.1, RowSix.stay hb hs.2⟩, trivial⟩)
   case s19 =>
    intro a w' hoff hg hdep K hK
    obtain ⟨v14, e14, (g14 : TwoAt #[.int .i64 2, .string ⟨#[]⟩, .int .i64 1, .int .i64 (pickZ x.n2 4), .string ⟨#[]⟩, .slice none 0 0, .slice none 0 0, .int .i64 1, .string (vName (pickZ (x.n1) 6).toNat), .int .i64 0, .int .i64 0, .string ⟨#[]⟩, .slice none 0 0, .slice none 0 0] w' v14)⟩ := hdep 14 _ 50 (by kernel_rfl) rfl rfl
    obtain ⟨_, e18, rfl⟩ := hdep 18 _ 54 (by kernel_rfl) rfl rfl
    obtain ⟨b50, rfl, k50⟩ := g14
    have hp := two_ptr0 k50
    rw [if_pos (by rfl)]
    go_simp
    exact hK.out _ _ hg hp (fun _ _ h => h)
   case s20 =>
    intro a w' hoff hg hdep K hK
    obtain ⟨v19, e19, (g19 : TmPtr 0 (.int .i64 2) (.string ⟨#[]⟩) (.int .i64 1) (.int .i64 (pickZ x.n2 4)) (.string ⟨#[]⟩) (.slice none 0 0) (.slice none 0 0) w' v19)⟩ := hdep 19 _ 55 (by kernel_rfl) rfl rfl
    obtain ⟨b55, rfl, l55, t0, t1, t2, t3, t4, t5, t6⟩ := g19
    rw [if_pos (by rfl)]
    obtain ⟨p0, p1, p2, p3, p4, p5⟩ := (X2.out.on hg).cells
    go_simp
    exact hK.out _ _ hg rfl (fun _ _ h => h)
   case s21 =>
    intro a w' hoff hg hdep K hK
    obtain ⟨_, e4, rfl⟩ := hdep 4 _ 40 (by kernel_rfl) rfl rfl
    obtain ⟨_, e20, rfl⟩ := hdep 20 _ 56 (by kernel_rfl) rfl rfl
    rw [if_pos (by rfl)]
    go_simp
    have hb := below_alloc w' (.cells #[.int .i64 1, .string (vName (pickZ (x.n0) 6).toNat), .int .i64 0, .int .i64 0, .string ⟨#[]⟩, .slice none 0 0, .slice none 0 0, .int .i64 2, .string ⟨#[]⟩, .int .i64 1, .int .i64 (pickZ x.n2 4), .string ⟨#[]⟩, .slice none 0 0, .slice none 0 0] 52)
    have hp := row_two (B := (w.heap.size + 2)) (w := w') (y := vTm (pickZ x.n0 6).toNat) (z := numZ (pickZ x.n2 4)) (Nat.le_trans HSZ.out hg.size) (vTm_rep _ _ _) (numZ_rep _ _ HN4.out)
    exact hK.out _ _ (Below.step hg hb) hp (fSt ⟨fun _ h => TwoAt.stay hb h, fun _ h => TmPtr.stay hb h, fun _ h => RowSix.stay hb h, fun _ h => h.elim fun sl hs => ⟨sl, hs.1, RowSix.stay hb hs.2⟩, trivial⟩)
   case s22 =>
    intro a w' hoff hg hdep K hK
    obtain ⟨_, e0, rfl⟩ := hdep 0 _ 36 (by kernel_rfl) rfl rfl
    obtain ⟨v21, e21, (g21 : RowSix (w.heap.size + 2) [vTm (pickZ x.n0 6).toNat, numZ (pickZ x.n2 4)] w' v21)⟩ := hdep 21 _ 57 (by kernel_rfl) rfl rfl
    obtain ⟨ra, rn, rc, rfl, k57⟩ := g21
    have hp : ∃ sl, (.agg #[.int .i64 3, .string (cmp6 j), .slice ra rn rc] : Value) = .agg #[.int .i64 3, .string (cmp6 j), sl] ∧ RowSix (w.heap.size + 2) [vTm (pickZ x.n0 6).toNat, numZ (pickZ x.n2 4)] w' sl := ⟨_, rfl, _, _, _, rfl, k57⟩
    rw [if_pos (by rfl)]
    go_simp
    exact hK.out _ _ hg hp (fun _ _ h => h)
   case last =>
    intro a w' hoff hg hf
    obtain ⟨_, e0, rfl⟩ := hf 0 _ 36 (by decide) rfl rfl
    obtain ⟨_, e1, rfl⟩ := hf 1 _ 37 (by decide) rfl rfl
    obtain ⟨_, e2, rfl⟩ := hf 2 _ 38 (by decide) rfl rfl
    obtain ⟨_, e3, rfl⟩ := hf 3 _ 39 (by decide) rfl rfl
    obtain ⟨_, e4, rfl⟩ := hf 4 _ 40 (by decide) rfl rfl
    obtain ⟨_, e5, rfl⟩ := hf 5 _ 41 (by decide) rfl rfl
    obtain ⟨_, e6, rfl⟩ := hf 6 _ 42 (by decide) rfl rfl
    obtain ⟨_, e7, rfl⟩ := hf 7 _ 43 (by decide) rfl rfl
    obtain ⟨_, e8, rfl⟩ := hf 8 _ 44 (by decide) rfl rfl
    obtain ⟨_, e9, rfl⟩ := hf 9 _ 45 (by decide) rfl rfl
    obtain ⟨_, e10, rfl⟩ := hf 10 _ 46 (by decide) rfl rfl
    obtain ⟨_, e11, rfl⟩ := hf 11 _ 47 (by decide) rfl rfl
    obtain ⟨_, e12, rfl⟩ := hf 12 _ 48 (by decide) rfl rfl
    obtain ⟨_, e13, rfl⟩ := hf 13 _ 49 (by decide) rfl rfl
    obtain ⟨v14, e14, (g14 : TwoAt #[.int .i64 2, .string ⟨#[]⟩, .int .i64 1, .int .i64 (pickZ x.n2 4), .string ⟨#[]⟩, .slice none 0 0, .slice none 0 0, .int .i64 1, .string (vName (pickZ (x.n1) 6).toNat), .int .i64 0, .int .i64 0, .string ⟨#[]⟩, .slice none 0 0, .slice none 0 0] w' v14)⟩ := hf 14 _ 50 (by decide) rfl rfl
    obtain ⟨_, e15, rfl⟩ := hf 15 _ 51 (by decide) rfl rfl
    obtain ⟨_, e16, rfl⟩ := hf 16 _ 52 (by decide) rfl rfl
    obtain ⟨_, e17, rfl⟩ := hf 17 _ 53 (by decide) rfl rfl
    obtain ⟨_, e18, rfl⟩ := hf 18 _ 54 (by decide) rfl rfl
    obtain ⟨v19, e19, (g19 : TmPtr 0 (.int .i64 2) (.string ⟨#[]⟩) (.int .i64 1) (.int .i64 (pickZ x.n2 4)) (.string ⟨#[]⟩) (.slice none 0 0) (.slice none 0 0) w' v19)⟩ := hf 19 _ 55 (by decide) rfl rfl
    obtain ⟨_, e20, rfl⟩ := hf 20 _ 56 (by decide) rfl rfl
    obtain ⟨v21, e21, (g21 : RowSix (w.heap.size + 2) [vTm (pickZ x.n0 6).toNat, numZ (pickZ x.n2 4)] w' v21)⟩ := hf 21 _ 57 (by decide) rfl rfl
    obtain ⟨v22, e22, (g22 : ∃ sl, v22 = .agg #[.int .i64 3, .string (cmp6 j), sl] ∧ RowSix (w.heap.size + 2) [vTm (pickZ x.n0 6).toNat, numZ (pickZ x.n2 4)] w' sl)⟩ := hf 22 _ 58 (by decide) rfl rfl
    obtain ⟨sl, rfl, ra, rn, rc, rfl, k9⟩ := g22
    have R3 := Lib.hid (R2.out.on hg); have B3 := Lib.hid (Below.step B2.out hg)
    have z0 := frozen_of_row w' (w.heap.size + 1) 0 _ _ R3.out; have z1 := frozen_of_row w' (w.heap.size + 1) 1 _ _ R3.out; have z2 := frozen_of_row w' (w.heap.size + 1) 2 _ _ R3.out
    obtain ⟨r0, r1, r2⟩ := R3.out.cells
    rw [if_pos (by rfl)]
    rw [hoff.sets [(36, .string (cmp6 j)), (37, .pointer (some ⟨w.heap.size, 2, none⟩)), (38, .pointer (some ⟨w.heap.size, 2, none⟩)), (39, .int .i64 x.n0), (40, .agg #[.int .i64 1, .string (vName (pickZ (x.n0) 6).toNat), .int .i64 0, .int .i64 0, .string ⟨#[]⟩, .slice none 0 0, .slice none 0 0]), (41, .pointer (some ⟨w.heap.size, 2, none⟩)), (42, .pointer (some ⟨w.heap.size, 4, none⟩)), (43, .int .i64 x.n2), (44, .int .i64 (pickZ x.n2 4)), (45, .agg #[.int .i64 2, .string ⟨#[]⟩, .int .i64 1, .int .i64 (pickZ x.n2 4), .string ⟨#[]⟩, .slice none 0 0, .slice none 0 0]), (46, .pointer (some ⟨w.heap.size, 2, none⟩)), (47, .pointer (some ⟨w.heap.size, 3, none⟩)), (48, .int .i64 x.n1), (49, .agg #[.int .i64 1, .string (vName (pickZ (x.n1) 6).toNat), .int .i64 0, .int .i64 0, .string ⟨#[]⟩, .slice none 0 0, .slice none 0 0]), (50, v14), (51, .pointer (some ⟨w.heap.size, 2, none⟩)), (52, .pointer (some ⟨w.heap.size, 5, none⟩)), (53, .int .i64 x.n3), (54, .int .i64 0), (55, v19), (56, .agg #[.int .i64 2, .string ⟨#[]⟩, .int .i64 1, .int .i64 (pickZ x.n2 4), .string ⟨#[]⟩, .slice none 0 0, .slice none 0 0]), (57, v21), (58, .agg #[.int .i64 3, .string (cmp6 j), .slice ra rn rc])] (by kernel_rfl) (by intro p hp; simp only [List.mem_cons, List.not_mem_nil, or_false] at hp; rcases hp with rfl | rfl | rfl | rfl | rfl | rfl | rfl | rfl | rfl | rfl | rfl | rfl | rfl | rfl | rfl | rfl | rfl | rfl | rfl | rfl | rfl | rfl | rfl <;> assumption)]
    clear hoff hf e0 e1 e2 e3 e4 e5 e6 e7 e8 e9 e10 e11 e12 e13 e14 e15 e16 e17 e18 e19 e20 e21 e22
    simp only [List.foldl_cons, List.foldl_nil, List.setIfInBounds_toArray, List.set_cons_zero, List.set_cons_succ]
    have HRL : Hid (RepLi (fun k => (w.heap.size + 2) ≤ k ∧ k < w'.heap.size) w' ⟨3, cmp6 j, [vTm (pickZ x.n0 6).toNat, numZ (pickZ x.n2 4)]⟩ (.int .i64 3) (.string (cmp6 j)) (.slice ra rn rc)) := ⟨rfl, rfl, small64 (show (0 : Int) ≤ 3 ∧ (3 : Int) ≤ 100 by decide), cmp6_size j, k9⟩
    clear k9
    go_simp
    clear r0 r1 r2 z0 z1 z2
    have R4 := boxLi_set R3.out (.int .i64 3) (.string (cmp6 j)) (.slice ra rn rc)
    have B4 : Below w.heap.size w (((w'.setCell ⟨w.heap.size + 1, 0, none⟩ (.int .i64 3)).setCell ⟨w.heap.size + 1, 1, none⟩ (.string (cmp6 j))).setCell ⟨w.heap.size + 1, 2, none⟩ (.slice ra rn rc)) := ((B3.out.setCell (p := ⟨w.heap.size + 1, 0, none⟩) (by simp) _).setCell (p := ⟨w.heap.size + 1, 1, none⟩) (by simp) _).setCell (p := ⟨w.heap.size + 1, 2, none⟩) (by simp) _
    have HRM : RepLi (fun k => w.heap.size ≤ k ∧ k < (((w'.setCell ⟨w.heap.size + 1, 0, none⟩ (.int .i64 3)).setCell ⟨w.heap.size + 1, 1, none⟩ (.string (cmp6 j))).setCell ⟨w.heap.size + 1, 2, none⟩ (.slice ra rn rc)).heap.size) (((w'.setCell ⟨w.heap.size + 1, 0, none⟩ (.int .i64 3)).setCell ⟨w.heap.size + 1, 1, none⟩ (.string (cmp6 j))).setCell ⟨w.heap.size + 1, 2, none⟩ (.slice ra rn rc)) ⟨3, cmp6 j, [vTm (pickZ x.n0 6).toNat, numZ (pickZ x.n2 4)]⟩ (.int .i64 3) (.string (cmp6 j)) (.slice ra rn rc) := RepLi.on (fun k hk => ⟨by omega, by simp [World.setCell]; exact hk.2⟩) (fun k hk => by rw [Below.heap_setCell _ _ _ _ (show k ≠ w.heap.size + 1 by omega), Below.heap_setCell _ _ _ _ (show k ≠ w.heap.size + 1 by omega), Below.heap_setCell _ _ _ _ (show k ≠ w.heap.size + 1 by omega)]) HRL.out
    have HB4 := Lib.hid B4; have HR4 := Lib.hid HRM
    clear B4 HRM HRL hg
    generalize (((w'.setCell ⟨w.heap.size + 1, 0, none⟩ (.int .i64 3)).setCell ⟨w.heap.size + 1, 1, none⟩ (.string (cmp6 j))).setCell ⟨w.heap.size + 1, 2, none⟩ (.slice ra rn rc)) = w9 at *
    obtain ⟨r0, r1, r2⟩ := R4.cells
    go_wp2_with fail
    rw [HLZ.out]
    exact bodyPost_ret (v := .agg #[.int .i64 3, .string (cmp6 j), .slice ra rn rc]) (by simp [results, Tryz.results54, go_sem, r0, r1, r2]) rfl ⟨_, rfl, HR4.out, HB4.out⟩
  ·rw [if_neg (by omega)] at HLZ
   have HM := Lib.hid hm
   clear hm
   refine wp_region_factsL (by rfl) 92 (by rfl) (by kernel_rfl) (FA [.e (.string (cmp6 j)), .e (.pointer (some ⟨w.heap.size, 2, none⟩)), .e (.pointer (some ⟨w.heap.size, 2, none⟩)), .e (.int .i64 x.n0), .e (.agg #[.int .i64 1, .string (vName (pickZ (x.n0) 6).toNat), .int .i64 0, .int .i64 0, .string ⟨#[]⟩, .slice none 0 0, .slice none 0 0]), .e (.pointer (some ⟨w.heap.size, 2, none⟩)), .e (.pointer (some ⟨w.heap.size, 4, none⟩)), .e (.int .i64 x.n2), .e (.int .i64 (pickZ x.n2 4)), .e (.agg #[.int .i64 2, .string ⟨#[]⟩, .int .i64 1, .int .i64 (pickZ x.n2 4), .string ⟨#[]⟩, .slice none 0 0, .slice none 0 0]), .e (.pointer (some ⟨w.heap.size, 2, none⟩)), .e (.pointer (some ⟨w.heap.size, 3, none⟩)), .e (.int .i64 x.n1), .e (.agg #[.int .i64 1, .string (vName (pickZ (x.n1) 6).toNat), .int .i64 0, .int .i64 0, .string ⟨#[]⟩, .slice none 0 0, .slice none 0 0]), .p (TwoAt #[.int .i64 2, .string ⟨#[]⟩, .int .i64 1, .int .i64 (pickZ x.n2 4), .string ⟨#[]⟩, .slice none 0 0, .slice none 0 0, .int .i64 1, .string (vName (pickZ (x.n1) 6).toNat), .int .i64 0, .int .i64 0, .string ⟨#[]⟩, .slice none 0 0, .slice none 0 0]), .e (.pointer (some ⟨w.heap.size, 2, none⟩)), .e (.pointer (some ⟨w.heap.size, 5, none⟩)), .e (.int .i64 x.n3), .e (.int .i64 1), .p (TmPtr 7 (.int .i64 1) (.string (vName (pickZ (x.n1) 6).toNat)) (.int .i64 0) (.int .i64 0) (.string ⟨#[]⟩) (.slice none 0 0) (.slice none 0 0)), .e (.agg #[.int .i64 1, .string (vName (pickZ (x.n1) 6).toNat), .int .i64 0, .int .i64 0, .string ⟨#[]⟩, .slice none 0 0, .slice none 0 0]), .p (RowSix (w.heap.size + 2) [vTm (pickZ x.n0 6).toNat, vTm (pickZ x.n1 6).toNat]), .p fun wz vz => ∃ sl, vz = .agg #[.int .i64 3, .string (cmp6 j), sl] ∧ RowSix (w.heap.size + 2) [vTm (pickZ x.n0 6).toNat, vTm (pickZ x.n1 6).toNat] wz sl]) (fun w' => Below w2.heap.size w2 w') (Below.drew (Below.refl _ _)) ⟨?s0, ?s1, ?s2, ?s3, ?s4, ?s5, ?s6, ?s7, ?s8, ?s9, ?s10, ?s11, ?s12, ?s13, ?s14, ?s15, ?s16, ?s17, ?s18, ?s19, ?s20, ?s21, ?s22, trivial⟩ (by rfl) ?last (by decide)
   case s0 =>
    intro a w' hoff hg hdep K hK
    have h5 := off_at hoff 5 (v := .string (cmp6 j)) (by kernel_rfl) rfl
    rw [if_pos (by rfl)]
    go_simp
    exact hK.out _ _ hg rfl (fun _ _ h => h)
   case s1 =>
    intro a w' hoff hg hdep K hK
    have h1 := off_at hoff 1 (v := .pointer (some ⟨w.heap.size, 0, none⟩)) (by kernel_rfl) rfl
    rw [if_pos (by rfl)]
    go_simp
    exact hK.out _ _ hg rfl (fun _ _ h => h)
   case s2 =>
    intro a w' hoff hg hdep K hK
    obtain ⟨_, e1, rfl⟩ := hdep 1 _ 37 (by kernel_rfl) rfl rfl
    rw [if_pos (by rfl)]
    go_simp
    exact hK.out _ _ hg rfl (fun _ _ h => h)
   case s3 =>
    intro a w' hoff hg hdep K hK
    obtain ⟨_, e2, rfl⟩ := hdep 2 _ 38 (by kernel_rfl) rfl rfl
    rw [if_pos (by rfl)]
    obtain ⟨p0, p1, p2, p3, p4, p5⟩ := (X2.out.on hg).cells
    go_simp
    exact hK.out _ _ hg rfl (fun _ _ h => h)
   case s4 =>
    intro a w' hoff hg hdep K hK
    obtain ⟨_, e3, rfl⟩ := hdep 3 _ 39 (by kernel_rfl) rfl rfl
    rw [if_pos (by rfl)]
    go_simp
    refine (v_any (x.n0) w' HX.out.2.2.1).mono ?_
    rintro e w2' ⟨rfl, hb⟩
    exact hK.out _ _ (Below.step hg hb) rfl (fSt ⟨fun _ h => TwoAt.stay hb h, fun _ h => TmPtr.stay hb h, fun _ h => RowSix.stay hb h, fun _ h => h.elim fun sl hs => ⟨sl, hs.1, RowSix.stay hb hs.2⟩, trivial⟩)
   case s5 =>
    intro a w' hoff hg hdep K hK
    have h1 := off_at hoff 1 (v := .pointer (some ⟨w.heap.size, 0, none⟩)) (by kernel_rfl) rfl
    rw [if_pos (by rfl)]
    go_simp
    exact hK.out _ _ hg rfl (fun _ _ h => h)
   case s6 =>
    intro a w' hoff hg hdep K hK
    obtain ⟨_, e5, rfl⟩ := hdep 5 _ 41 (by kernel_rfl) rfl rfl
    rw [if_pos (by rfl)]
    go_simp
    exact hK.out _ _ hg rfl (fun _ _ h => h)
   case s7 =>
    intro a w' hoff hg hdep K hK
    obtain ⟨_, e6, rfl⟩ := hdep 6 _ 42 (by kernel_rfl) rfl rfl
    rw [if_pos (by rfl)]
    obtain ⟨p0, p1, p2, p3, p4, p5⟩ := (X2.out.on hg).cells
    go_simp
    exact hK.out _ _ hg rfl (fun _ _ h => h)
   case s8 =>
    intro a w' hoff hg hdep K hK
    obtain ⟨_, e7, rfl⟩ := hdep 7 _ 43 (by kernel_rfl) rfl rfl
    rw [if_pos (by rfl)]
    go_simp
    refine (pick6_any (x.n2) 4 w' HX.out.2.2.2.2.1 (by omega) (by omega)).mono ?_
    rintro e w2' ⟨rfl, rfl⟩
    have hb := Below.refl w'.heap.size w'
    exact hK.out _ _ (Below.step hg hb) rfl (fSt ⟨fun _ h => TwoAt.stay hb h, fun _ h => TmPtr.stay hb h, fun _ h => RowSix.stay hb h, fun _ h => h.elim fun sl hs => ⟨sl, hs.1, RowSix.stay hb hs.2⟩, trivial⟩)
   case s9 =>
    intro a w' hoff hg hdep K hK
    obtain ⟨_, e8, rfl⟩ := hdep 8 _ 44 (by kernel_rfl) rfl rfl
    rw [if_pos (by rfl)]
    go_simp
    refine (num_any (pickZ x.n2 4) w').mono ?_
    rintro e w2' ⟨rfl, hb⟩
    exact hK.out _ _ (Below.step hg hb) rfl (fSt ⟨fun _ h => TwoAt.stay hb h, fun _ h => TmPtr.stay hb h, fun _ h => RowSix.stay hb h, fun _ h => h.elim fun sl hs => ⟨sl, hs.1, RowSix.stay hb hs.2⟩, trivial⟩)
   case s10 =>
    intro a w' hoff hg hdep K hK
    have h1 := off_at hoff 1 (v := .pointer (some ⟨w.heap.size, 0, none⟩)) (by kernel_rfl) rfl
    rw [if_pos (by rfl)]
    go_simp
    exact hK.out _ _ hg rfl (fun _ _ h => h)
   case s11 =>
    intro a w' hoff hg hdep K hK
    obtain ⟨_, e10, rfl⟩ := hdep 10 _ 46 (by kernel_rfl) rfl rfl
    rw [if_pos (by rfl)]
    go_simp
    exact hK.out _ _ hg rfl (fun _ _ h => h)
   case s12 =>
    intro a w' hoff hg hdep K hK
    obtain ⟨_, e11, rfl⟩ := hdep 11 _ 47 (by kernel_rfl) rfl rfl
    rw [if_pos (by rfl)]
    obtain ⟨p0, p1, p2, p3, p4, p5⟩ := (X2.out.on hg).cells
    go_simp
    exact hK.out _ _ hg rfl (fun _ _ h => h)
   case s13 =>
    intro a w' hoff hg hdep K hK
    obtain ⟨_, e12, rfl⟩ := hdep 12 _ 48 (by kernel_rfl) rfl rfl
    rw [if_pos (by rfl)]
    go_simp
    refine (v_any (x.n1) w' HX.out.2.2.2.1).mono ?_
    rintro e w2' ⟨rfl, hb⟩
    exact hK.out _ _ (Below.step hg hb) rfl (fSt ⟨fun _ h => TwoAt.stay hb h, fun _ h => TmPtr.stay hb h, fun _ h => RowSix.stay hb h, fun _ h => h.elim fun sl hs => ⟨sl, hs.1, RowSix.stay hb hs.2⟩, trivial⟩)
   case s14 =>
    intro a w' hoff hg hdep K hK
    obtain ⟨_, e9, rfl⟩ := hdep 9 _ 45 (by kernel_rfl) rfl rfl
    obtain ⟨_, e13, rfl⟩ := hdep 13 _ 49 (by kernel_rfl) rfl rfl
    rw [if_pos (by rfl)]
    go_simp
    have hb := below_alloc w' (.cells #[.int .i64 2, .string ⟨#[]⟩, .int .i64 1, .int .i64 (pickZ x.n2 4), .string ⟨#[]⟩, .slice none 0 0, .slice none 0 0, .int .i64 1, .string (vName (pickZ (x.n1) 6).toNat), .int .i64 0, .int .i64 0, .string ⟨#[]⟩, .slice none 0 0, .slice none 0 0] 52)
    have hp : TwoAt #[.int .i64 2, .string ⟨#[]⟩, .int .i64 1, .int .i64 (pickZ x.n2 4), .string ⟨#[]⟩, .slice none 0 0, .slice none 0 0, .int .i64 1, .string (vName (pickZ (x.n1) 6).toNat), .int .i64 0, .int .i64 0, .string ⟨#[]⟩, .slice none 0 0, .slice none 0 0] (w'.alloc (.cells #[.int .i64 2, .string ⟨#[]⟩, .int .i64 1, .int .i64 (pickZ x.n2 4), .string ⟨#[]⟩, .slice none 0 0, .slice none 0 0, .int .i64 1, .string (vName (pickZ (x.n1) 6).toNat), .int .i64 0, .int .i64 0, .string ⟨#[]⟩, .slice none 0 0, .slice none 0 0] 52)) (.slice (some ⟨w'.heap.size, 0, none⟩) 2 2) := ⟨_, rfl, alloc_new' _ _⟩
    exact hK.out _ _ (Below.step hg hb) hp (fSt ⟨fun _ h => TwoAt.stay hb h, fun _ h => TmPtr.stay hb h, fun _ h => RowSix.stay hb h, fun _ h => h.elim fun sl hs => ⟨sl, hs.1, RowSix.stay hb hs.2⟩, trivial⟩)
   case s15 =>
    intro a w' hoff hg hdep K hK
    have h1 := off_at hoff 1 (v := .pointer (some ⟨w.heap.size, 0, none⟩)) (by kernel_rfl) rfl
    rw [if_pos (by rfl)]
    go_simp
    exact hK.out _ _ hg rfl (fun _ _ h => h)
   case s16 =>
    intro a w' hoff hg hdep K hK
    obtain ⟨_, e15, rfl⟩ := hdep 15 _ 51 (by kernel_rfl) rfl rfl
    rw [if_pos (by rfl)]
    go_simp
    exact hK.out _ _ hg rfl (fun _ _ h => h)
   case s17 =>
    intro a w' hoff hg hdep K hK
    obtain ⟨_, e16, rfl⟩ := hdep 16 _ 52 (by kernel_rfl) rfl rfl
    rw [if_pos (by rfl)]
    obtain ⟨p0, p1, p2, p3, p4, p5⟩ := (X2.out.on hg).cells
    go_simp
    exact hK.out _ _ hg rfl (fun _ _ h => h)
   case s18 =>
    intro a w' hoff hg hdep K hK
    obtain ⟨_, e17, rfl⟩ := hdep 17 _ 53 (by kernel_rfl) rfl rfl
    rw [if_pos (by rfl)]
    go_simp
    refine (pick6_any (x.n3) 2 w' HX.out.2.2.2.2.2 (by omega) (by omega)).mono ?_
    rintro e w2' ⟨rfl, rfl⟩
    rw [HM.out]
    have hb := Below.refl w'.heap.size w'
    exact hK.out _ _ (Below.step hg hb) rfl (fSt ⟨fun _ h => TwoAt.stay hb h, fun _ h => TmPtr.stay hb h, fun _ h => RowSix.stay hb h, fun _ h => h.elim fun sl hs => ⟨sl, hs.1, RowSix.stay hb hs.2⟩, trivial⟩)
   case s19 =>
    intro a w' hoff hg hdep K hK
    obtain ⟨v14, e14, (g14 : TwoAt #[.int .i64 2, .string ⟨#[]⟩, .int .i64 1, .int .i64 (pickZ x.n2 4), .string ⟨#[]⟩, .slice none 0 0, .slice none 0 0, .int .i64 1, .string (vName (pickZ (x.n1) 6).toNat), .int .i64 0, .int .i64 0, .string ⟨#[]⟩, .slice none 0 0, .slice none 0 0] w' v14)⟩ := hdep 14 _ 50 (by kernel_rfl) rfl rfl
    obtain ⟨_, e18, rfl⟩ := hdep 18 _ 54 (by kernel_rfl) rfl rfl
    obtain ⟨b50, rfl, k50⟩ := g14
    have hp := two_ptr1 k50
    rw [if_pos (by rfl)]
    go_simp
    exact hK.out _ _ hg hp (fun _ _ h => h)
   case s20 =>
    intro a w' hoff hg hdep K hK
    obtain ⟨v19, e19, (g19 : TmPtr 7 (.int .i64 1) (.string (vName (pickZ (x.n1) 6).toNat)) (.int .i64 0) (.int .i64 0) (.string ⟨#[]⟩) (.slice none 0 0) (.slice none 0 0) w' v19)⟩ := hdep 19 _ 55 (by kernel_rfl) rfl rfl
    obtain ⟨b55, rfl, l55, t0, t1, t2, t3, t4, t5, t6⟩ := g19
    rw [if_pos (by rfl)]
    obtain ⟨p0, p1, p2, p3, p4, p5⟩ := (X2.out.on hg).cells
    go_simp
    exact hK.out _ _ hg rfl (fun _ _ h => h)
   case s21 =>
    intro a w' hoff hg hdep K hK
    obtain ⟨_, e4, rfl⟩ := hdep 4 _ 40 (by kernel_rfl) rfl rfl
    obtain ⟨_, e20, rfl⟩ := hdep 20 _ 56 (by kernel_rfl) rfl rfl
    rw [if_pos (by rfl)]
    go_simp
    have hb := below_alloc w' (.cells #[.int .i64 1, .string (vName (pickZ (x.n0) 6).toNat), .int .i64 0, .int .i64 0, .string ⟨#[]⟩, .slice none 0 0, .slice none 0 0, .int .i64 1, .string (vName (pickZ (x.n1) 6).toNat), .int .i64 0, .int .i64 0, .string ⟨#[]⟩, .slice none 0 0, .slice none 0 0] 52)
    have hp := row_two (B := (w.heap.size + 2)) (w := w') (y := vTm (pickZ x.n0 6).toNat) (z := vTm (pickZ x.n1 6).toNat) (Nat.le_trans HSZ.out hg.size) (vTm_rep _ _ _) (vTm_rep _ _ _)
    exact hK.out _ _ (Below.step hg hb) hp (fSt ⟨fun _ h => TwoAt.stay hb h, fun _ h => TmPtr.stay hb h, fun _ h => RowSix.stay hb h, fun _ h => h.elim fun sl hs => ⟨sl, hs.1, RowSix.stay hb hs.2⟩, trivial⟩)
   case s22 =>
    intro a w' hoff hg hdep K hK
    obtain ⟨_, e0, rfl⟩ := hdep 0 _ 36 (by kernel_rfl) rfl rfl
    obtain ⟨v21, e21, (g21 : RowSix (w.heap.size + 2) [vTm (pickZ x.n0 6).toNat, vTm (pickZ x.n1 6).toNat] w' v21)⟩ := hdep 21 _ 57 (by kernel_rfl) rfl rfl
    obtain ⟨ra, rn, rc, rfl, k57⟩ := g21
    have hp : ∃ sl, (.agg #[.int .i64 3, .string (cmp6 j), .slice ra rn rc] : Value) = .agg #[.int .i64 3, .string (cmp6 j), sl] ∧ RowSix (w.heap.size + 2) [vTm (pickZ x.n0 6).toNat, vTm (pickZ x.n1 6).toNat] w' sl := ⟨_, rfl, _, _, _, rfl, k57⟩
    rw [if_pos (by rfl)]
    go_simp
    exact hK.out _ _ hg hp (fun _ _ h => h)
   case last =>
    intro a w' hoff hg hf
    obtain ⟨_, e0, rfl⟩ := hf 0 _ 36 (by decide) rfl rfl
    obtain ⟨_, e1, rfl⟩ := hf 1 _ 37 (by decide) rfl rfl
    obtain ⟨_, e2, rfl⟩ := hf 2 _ 38 (by decide) rfl rfl
    obtain ⟨_, e3, rfl⟩ := hf 3 _ 39 (by decide) rfl rfl
    obtain ⟨_, e4, rfl⟩ := hf 4 _ 40 (by decide) rfl rfl
    obtain ⟨_, e5, rfl⟩ := hf 5 _ 41 (by decide) rfl rfl
    obtain ⟨_, e6, rfl⟩ := hf 6 _ 42 (by decide) rfl rfl
    obtain ⟨_, e7, rfl⟩ := hf 7 _ 43 (by decide) rfl rfl
    obtain ⟨_, e8, rfl⟩ := hf 8 _ 44 (by decide) rfl rfl
    obtain ⟨_, e9, rfl⟩ := hf 9 _ 45 (by decide) rfl rfl
    obtain ⟨_, e10, rfl⟩ := hf 10 _ 46 (by decide) rfl rfl
    obtain ⟨_, e11, rfl⟩ := hf 11 _ 47 (by decide) rfl rfl
    obtain ⟨_, e12, rfl⟩ := hf 12 _ 48 (by decide) rfl rfl
    obtain ⟨_, e13, rfl⟩ := hf 13 _ 49 (by decide) rfl rfl
    obtain ⟨v14, e14, (g14 : TwoAt #[.int .i64 2, .string ⟨#[]⟩, .int .i64 1, .int .i64 (pickZ x.n2 4), .string ⟨#[]⟩, .slice none 0 0, .slice none 0 0, .int .i64 1, .string (vName (pickZ (x.n1) 6).toNat), .int .i64 0, .int .i64 0, .string ⟨#[]⟩, .slice none 0 0, .slice none 0 0] w' v14)⟩ := hf 14 _ 50 (by decide) rfl rfl
    obtain ⟨_, e15, rfl⟩ := hf 15 _ 51 (by decide) rfl rfl
    obtain ⟨_, e16, rfl⟩ := hf 16 _ 52 (by decide) rfl rfl
    obtain ⟨_, e17, rfl⟩ := hf 17 _ 53 (by decide) rfl rfl
    obtain ⟨_, e18, rfl⟩ := hf 18 _ 54 (by decide) rfl rfl
    obtain ⟨v19, e19, (g19 : TmPtr 7 (.int .i64 1) (.string (vName (pickZ (x.n1) 6).toNat)) (.int .i64 0) (.int .i64 0) (.string ⟨#[]⟩) (.slice none 0 0) (.slice none 0 0) w' v19)⟩ := hf 19 _ 55 (by decide) rfl rfl
    obtain ⟨_, e20, rfl⟩ := hf 20 _ 56 (by decide) rfl rfl
    obtain ⟨v21, e21, (g21 : RowSix (w.heap.size + 2) [vTm (pickZ x.n0 6).toNat, vTm (pickZ x.n1 6).toNat] w' v21)⟩ := hf 21 _ 57 (by decide) rfl rfl
    obtain ⟨v22, e22, (g22 : ∃ sl, v22 = .agg #[.int .i64 3, .string (cmp6 j), sl] ∧ RowSix (w.heap.size + 2) [vTm (pickZ x.n0 6).toNat, vTm (pickZ x.n1 6).toNat] w' sl)⟩ := hf 22 _ 58 (by decide) rfl rfl
    obtain ⟨sl, rfl, ra, rn, rc, rfl, k9⟩ := g22
    have R3 := Lib.hid (R2.out.on hg); have B3 := Lib.hid (Below.step B2.out hg)
    have z0 := frozen_of_row w' (w.heap.size + 1) 0 _ _ R3.out; have z1 := frozen_of_row w' (w.heap.size + 1) 1 _ _ R3.out; have z2 := frozen_of_row w' (w.heap.size + 1) 2 _ _ R3.out
    obtain ⟨r0, r1, r2⟩ := R3.out.cells
    rw [if_pos (by rfl)]
    rw [hoff.sets [(36, .string (cmp6 j)), (37, .pointer (some ⟨w.heap.size, 2, none⟩)), (38, .pointer (some ⟨w.heap.size, 2, none⟩)), (39, .int .i64 x.n0), (40, .agg #[.int .i64 1, .string (vName (pickZ (x.n0) 6).toNat), .int .i64 0, .int .i64 0, .string ⟨#[]⟩, .slice none 0 0, .slice none 0 0]), (41, .pointer (some ⟨w.heap.size, 2, none⟩)), (42, .pointer (some ⟨w.heap.size, 4, none⟩)), (43, .int .i64 x.n2), (44, .int .i64 (pickZ x.n2 4)), (45, .agg #[.int .i64 2, .string ⟨#[]⟩, .int .i64 1, .int .i64 (pickZ x.n2 4), .string ⟨#[]⟩, .slice none 0 0, .slice none 0 0]), (46, .pointer (some ⟨w.heap.size, 2, none⟩)), (47, .pointer (some ⟨w.heap.size, 3, none⟩)), (48, .int .i64 x.n1), (49, .agg #[.int .i64 1, .string (vName (pickZ (x.n1) 6).toNat), .int .i64 0, .int .i64 0, .string ⟨#[]⟩, .slice none 0 0, .slice none 0 0]), (50, v14), (51, .pointer (some ⟨w.heap.size, 2, none⟩)), (52, .pointer (some ⟨w.heap.size, 5, none⟩)), (53, .int .i64 x.n3), (54, .int .i64 1), (55, v19), (56, .agg #[.int .i64 1, .string (vName (pickZ (x.n1) 6).toNat), .int .i64 0, .int .i64 0, .string ⟨#[]⟩, .slice none 0 0, .slice none 0 0]), (57, v21), (58, .agg #[.int .i64 3, .string (cmp6 j), .slice ra rn rc])] (by kernel_rfl) (by intro p hp; simp only [List.mem_cons, List.not_mem_nil, or_false] at hp; rcases hp with rfl | rfl | rfl | rfl | rfl | rfl | rfl | rfl | rfl | rfl | rfl | rfl | rfl | rfl | rfl | rfl | rfl | rfl | rfl | rfl | rfl | rfl | rfl <;> assumption)]
    clear hoff hf e0 e1 e2 e3 e4 e5 e6 e7 e8 e9 e10 e11 e12 e13 e14 e15 e16 e17 e18 e19 e20 e21 e22
    simp only [List.foldl_cons, List.foldl_nil, List.setIfInBounds_toArray, List.set_cons_zero, List.set_cons_succ]
    have HRL : Hid (RepLi (fun k => (w.heap.size + 2) ≤ k ∧ k < w'.heap.size) w' ⟨3, cmp6 j, [vTm (pickZ x.n0 6).toNat, vTm (pickZ x.n1 6).toNat]⟩ (.int .i64 3) (.string (cmp6 j)) (.slice ra rn rc)) := ⟨rfl, rfl, small64 (show (0 : Int) ≤ 3 ∧ (3 : Int) ≤ 100 by decide), cmp6_size j, k9⟩
    clear k9
    go_simp
    clear r0 r1 r2 z0 z1 z2
    have R4 := boxLi_set R3.out (.int .i64 3) (.string (cmp6 j)) (.slice ra rn rc)
    have B4 : Below w.heap.size w (((w'.setCell ⟨w.heap.size + 1, 0, none⟩ (.int .i64 3)).setCell ⟨w.heap.size + 1, 1, none⟩ (.string (cmp6 j))).setCell ⟨w.heap.size + 1, 2, none⟩ (.slice ra rn rc)) := ((B3.out.setCell (p := ⟨w.heap.size + 1, 0, none⟩) (by simp) _).setCell (p := ⟨w.heap.size + 1, 1, none⟩) (by simp) _).setCell (p := ⟨w.heap.size + 1, 2, none⟩) (by simp) _
    have HRM : RepLi (fun k => w.heap.size ≤ k ∧ k < (((w'.setCell ⟨w.heap.size + 1, 0, none⟩ (.int .i64 3)).setCell ⟨w.heap.size + 1, 1, none⟩ (.string (cmp6 j))).setCell ⟨w.heap.size + 1, 2, none⟩ (.slice ra rn rc)).heap.size) (((w'.setCell ⟨w.heap.size + 1, 0, none⟩ (.int .i64 3)).setCell ⟨w.heap.size + 1, 1, none⟩ (.string (cmp6 j))).setCell ⟨w.heap.size + 1, 2, none⟩ (.slice ra rn rc)) ⟨3, cmp6 j, [vTm (pickZ x.n0 6).toNat, vTm (pickZ x.n1 6).toNat]⟩ (.int .i64 3) (.string (cmp6 j)) (.slice ra rn rc) := RepLi.on (fun k hk => ⟨by omega, by simp [World.setCell]; exact hk.2⟩) (fun k hk => by rw [Below.heap_setCell _ _ _ _ (show k ≠ w.heap.size + 1 by omega), Below.heap_setCell _ _ _ _ (show k ≠ w.heap.size + 1 by omega), Below.heap_setCell _ _ _ _ (show k ≠ w.heap.size + 1 by omega)]) HRL.out
    have HB4 := Lib.hid B4; have HR4 := Lib.hid HRM
    clear B4 HRM HRL hg
    generalize (((w'.setCell ⟨w.heap.size + 1, 0, none⟩ (.int .i64 3)).setCell ⟨w.heap.size + 1, 1, none⟩ (.string (cmp6 j))).setCell ⟨w.heap.size + 1, 2, none⟩ (.slice ra rn rc)) = w9 at *
    obtain ⟨r0, r1, r2⟩ := R4.cells
    go_wp2_with fail
    rw [HLZ.out]
    exact bodyPost_ret (v := .agg #[.int .i64 3, .string (cmp6 j), .slice ra rn rc]) (by simp [results, Tryz.results54, go_sem, r0, r1, r2]) rfl ⟨_, rfl, HR4.out, HB4.out⟩
end Go.Proofs.YtjohcnhiblfbnaaGreatDoor
