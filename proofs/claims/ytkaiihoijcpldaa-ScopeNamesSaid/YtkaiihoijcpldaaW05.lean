/-
  Layer 6's own 'Literal'.
-/
import Derived.Test.YtkaiihoijcpldaaW04
namespace Go.Proofs.Ytkaiihoijcpldaa
open Go.RowKit

set_option maxRecDepth 100000 in
set_option maxHeartbeats 20000000 in
theorem literal_test (x : Rw) (w : World) (hx : RwOk x) (h5 : pickZ x.kind 8 = 5 ∨ pickZ x.kind 8 = 6) : Calls Try.prog 36 #[rwV x] w (MadeLi (litZ x) w) := by
  have HX := Lib.hid hx
  rw [rwV]
  go_enter Try.func36, Try.ntmps36
  go_wp2_with fail
  have x1 := boxRw_new w x; have b1 := below_alloc w (.cells #[.int .i64 x.kind, .int .i64 x.name, .int .i64 x.n0, .int .i64 x.n1, .int .i64 x.n2, .int .i64 x.n3] 60)
  have s1 := World.size_alloc w (.cells #[.int .i64 x.kind, .int .i64 x.name, .int .i64 x.n0, .int .i64 x.n1, .int .i64 x.n2, .int .i64 x.n3] 60)
  generalize w.alloc (.cells #[.int .i64 x.kind, .int .i64 x.name, .int .i64 x.n0, .int .i64 x.n1, .int .i64 x.n2, .int .i64 x.n3] 60) = wa at *
  have r2 := boxLi_new wa (.int .i64 0) (.string ⟨#[]⟩) (.slice none 0 0); have b2 := below_alloc wa (.cells #[.int .i64 0, .string ⟨#[]⟩, .slice none 0 0] 42)
  have s2 := World.size_alloc wa (.cells #[.int .i64 0, .string ⟨#[]⟩, .slice none 0 0] 42)
  generalize wa.alloc (.cells #[.int .i64 0, .string ⟨#[]⟩, .slice none 0 0] 42) = wb at *
  rw [s1] at r2
  have X0 := Lib.hid (x1.on b2); have R0 := Lib.hid r2; have B0 := Lib.hid (Below.step b1 b2)
  have HSB : Hid (w.heap.size + 2 ≤ wb.heap.size) := by show _ ≤ _; omega
  clear x1 b1 s1 r2 b2 s2
  obtain ⟨p0, p1, p2, p3, p4, p5⟩ := X0.out.cells
  go_wp2_with fail
  refine (atom_any x wb HX.out).mono ?_
  rintro e w1 ⟨lv, rfl, hm, hb⟩
  have X1 := Lib.hid (X0.out.on hb); have R1 := Lib.hid (R0.out.on hb); have B1 := Lib.hid (Below.step B0.out hb)
  have HS1 : Hid (w.heap.size + 2 ≤ w1.heap.size) := Nat.le_trans HSB.out hb.size
  have HM1 := Lib.hid hm
  obtain ⟨la, lc, rfl⟩ := OwnK.form hm
  clear hm hb p0 p1 p2 p3 p4 p5 X0 R0 B0
  obtain ⟨p0, p1, p2, p3, p4, p5⟩ := X1.out.cells
  go_wp2_with fail
  refine (pick6_any x.kind 8 _ HX.out.1 (by omega) (by omega)).mono ?_
  rintro e w' ⟨rfl, rfl⟩
  have hjb := pickZ_bd x.name 6 (by omega)
  obtain ⟨j, hj⟩ := Int.eq_ofNat_of_zero_le hjb.1
  have hj6 : j < 6 := by omega
  have HJ := Lib.hid hj
  have hn4 := pickZ_bd x.n2 4 (by omega)
  have HN4 : Hid (I64 (pickZ x.n2 4)) := ⟨by omega, by omega⟩
  have hm2 := pickZ_bd x.n3 2 (by omega)
  have hm : pickZ x.n3 2 = 0 ∨ pickZ x.n3 2 = 1 := by omega
  have HLZ : Hid (litZ x = ⟨3, cmp6 j, [vZ x.n0, if pickZ x.n3 2 = 0 then numZ (pickZ x.n2 4) else vZ x.n1]⟩) := by
    show _ = _
    rw [litZ, if_neg (by omega), if_neg (by omega), if_pos (by omega), hj]; simp
  have hk0 : (pickZ x.kind 8 == 0) = false := by simp; omega
  have hk1 : (pickZ x.kind 8 == 1) = false := by simp; omega
  have hk2 : (pickZ x.kind 8 == 2) = false := by simp; omega
  have hk3 : (pickZ x.kind 8 == 3) = false := by simp; omega
  have hk4 : (pickZ x.kind 8 == 4) = false := by simp; omega
  have hk56 : (pickZ x.kind 8 == 5) = true ∨ ((pickZ x.kind 8 == 5) = false ∧ (pickZ x.kind 8 == 6) = true) := by
    rcases h5 with h | h <;> simp [h]
  have HH5 := Lib.hid hk56
  clear hjb hj hn4 hm2 h5 hk56 hx
  generalize pickZ x.kind 8 = P at *
  have b2 := below_alloc w1 (.cells #[.string ⟨#[61, 61]⟩, .string ⟨#[33, 61]⟩, .string ⟨#[60]⟩, .string ⟨#[60, 61]⟩, .string ⟨#[62]⟩, .string ⟨#[62, 61]⟩] 9)
  have X2 := Lib.hid (X1.out.on b2)
  obtain ⟨q0, q1, q2, q3, q4, q5⟩ := X2.out.cells
  have B2 := Lib.hid (Below.step B1.out b2); have R2 := Lib.hid (R1.out.on b2)
  have HSZ : Hid (w.heap.size + 2 ≤ (w1.alloc (.cells #[.string ⟨#[61, 61]⟩, .string ⟨#[33, 61]⟩, .string ⟨#[60]⟩, .string ⟨#[60, 61]⟩, .string ⟨#[62]⟩, .string ⟨#[62, 61]⟩] 9)).heap.size) := Nat.le_trans HS1.out b2.size
  have pj : (w1.alloc (.cells #[.string ⟨#[61, 61]⟩, .string ⟨#[33, 61]⟩, .string ⟨#[60]⟩, .string ⟨#[60, 61]⟩, .string ⟨#[62]⟩, .string ⟨#[62, 61]⟩] 9)).cell? ⟨w1.heap.size, j, none⟩ = some (.string (cmp6 j)) := cell_of_block' (alloc_new' w1 _) _ (cmp_at hj6)
  have PJ := Lib.hid pj
  clear b2 pj
  have hkk : True := trivial
  rcases HH5.out with hk5 | ⟨hk5, hk6⟩
  all_goals
    go_wp2_with fail
    refine (pick6_any x.name 6 _ HX.out.2.1 (by omega) (by omega)).mono ?_
    rintro e w' ⟨rfl, rfl⟩
    rw [HJ.out]
    have pj := PJ.out
    have hj0 : (0 : Int) ≤ (j : Int) := by omega
    have hj1 : (j : Int) < 6 := by omega
    clear p0 p1 p2 p3 p4 p5 q0 q1 q2 q3 q4 q5 PJ
    generalize w1.alloc (.cells #[.string ⟨#[61, 61]⟩, .string ⟨#[33, 61]⟩, .string ⟨#[60]⟩, .string ⟨#[60, 61]⟩, .string ⟨#[62]⟩, .string ⟨#[62, 61]⟩] 9) = w2 at *
    go_wp2_with fail
    clear pj hj0 hj1 hk0 hk1 hk2 hk3 hk4
    rcases hm with hm | hm
    · rw [if_pos hm] at HLZ
      have HM := Lib.hid hm
      clear hm
      refine wp_region_factsL (by rfl) 92 (by rfl) (by kernel_rfl) (fun wz iz vz => (iz = 0 → vz = .string (cmp6 j)) ∧ (iz = 1 → vz = .pointer (some ⟨w.heap.size, 2, none⟩)) ∧ (iz = 2 → vz = .pointer (some ⟨w.heap.size, 2, none⟩)) ∧ (iz = 3 → vz = .int .i64 x.n0) ∧ (iz = 4 → vz = .agg #[.int .i64 1, .string (vName (pickZ (x.n0) 6).toNat), .int .i64 0, .int .i64 0, .string ⟨#[]⟩, .slice none 0 0, .slice none 0 0]) ∧ (iz = 5 → vz = .pointer (some ⟨w.heap.size, 2, none⟩)) ∧ (iz = 6 → vz = .pointer (some ⟨w.heap.size, 4, none⟩)) ∧ (iz = 7 → vz = .int .i64 x.n2) ∧ (iz = 8 → vz = .int .i64 (pickZ x.n2 4)) ∧ (iz = 9 → vz = .agg #[.int .i64 2, .string ⟨#[]⟩, .int .i64 1, .int .i64 (pickZ x.n2 4), .string ⟨#[]⟩, .slice none 0 0, .slice none 0 0]) ∧ (iz = 10 → vz = .pointer (some ⟨w.heap.size, 2, none⟩)) ∧ (iz = 11 → vz = .pointer (some ⟨w.heap.size, 3, none⟩)) ∧ (iz = 12 → vz = .int .i64 x.n1) ∧ (iz = 13 → vz = .agg #[.int .i64 1, .string (vName (pickZ (x.n1) 6).toNat), .int .i64 0, .int .i64 0, .string ⟨#[]⟩, .slice none 0 0, .slice none 0 0]) ∧ (iz = 14 → TwoAt #[.int .i64 2, .string ⟨#[]⟩, .int .i64 1, .int .i64 (pickZ x.n2 4), .string ⟨#[]⟩, .slice none 0 0, .slice none 0 0, .int .i64 1, .string (vName (pickZ (x.n1) 6).toNat), .int .i64 0, .int .i64 0, .string ⟨#[]⟩, .slice none 0 0, .slice none 0 0] wz vz) ∧ (iz = 15 → vz = .pointer (some ⟨w.heap.size, 2, none⟩)) ∧ (iz = 16 → vz = .pointer (some ⟨w.heap.size, 5, none⟩)) ∧ (iz = 17 → vz = .int .i64 x.n3) ∧ (iz = 18 → vz = .int .i64 0) ∧ (iz = 19 → TmPtr 0 (.int .i64 2) (.string ⟨#[]⟩) (.int .i64 1) (.int .i64 (pickZ x.n2 4)) (.string ⟨#[]⟩) (.slice none 0 0) (.slice none 0 0) wz vz) ∧ (iz = 20 → vz = .agg #[.int .i64 2, .string ⟨#[]⟩, .int .i64 1, .int .i64 (pickZ x.n2 4), .string ⟨#[]⟩, .slice none 0 0, .slice none 0 0]) ∧ (iz = 21 → RowSix (w.heap.size + 2) [vTm (pickZ x.n0 6).toNat, numZ (pickZ x.n2 4)] wz vz) ∧ (iz = 22 → (∃ sl, vz = .agg #[.int .i64 3, .string (cmp6 j), sl] ∧ RowSix (w.heap.size + 2) [vTm (pickZ x.n0 6).toNat, numZ (pickZ x.n2 4)] wz sl))) (fun w' => Below w2.heap.size w2 w') (Below.drew (Below.refl _ _)) ⟨?s0, ?s1, ?s2, ?s3, ?s4, ?s5, ?s6, ?s7, ?s8, ?s9, ?s10, ?s11, ?s12, ?s13, ?s14, ?s15, ?s16, ?s17, ?s18, ?s19, ?s20, ?s21, ?s22, trivial⟩ (by rfl) ?last (by decide)
      case s0 =>
        intro a w' hoff hg hdep K hK
        have h5 := off_at hoff 5 (v := .string (cmp6 j)) (by kernel_rfl) rfl
        rw [if_pos (by rfl)]
        go_simp
        exact hK.out _ _ hg ⟨fun _ => rfl, nn, nn, nn, nn, nn, nn, nn, nn, nn, nn, nn, nn, nn, nn, nn, nn, nn, nn, nn, nn, nn, nn⟩ (fun _ _ h => h)
      case s1 =>
        intro a w' hoff hg hdep K hK
        have h1 := off_at hoff 1 (v := .pointer (some ⟨w.heap.size, 0, none⟩)) (by kernel_rfl) rfl
        rw [if_pos (by rfl)]
        go_simp
        exact hK.out _ _ hg ⟨nn, fun _ => rfl, nn, nn, nn, nn, nn, nn, nn, nn, nn, nn, nn, nn, nn, nn, nn, nn, nn, nn, nn, nn, nn⟩ (fun _ _ h => h)
      case s2 =>
        intro a w' hoff hg hdep K hK
        obtain ⟨v1, e1, f1⟩ := hdep 1 _ 37 (by kernel_rfl) rfl rfl
        obtain rfl := (f1.2.1 rfl).symm
        rw [if_pos (by rfl)]
        go_simp
        exact hK.out _ _ hg ⟨nn, nn, fun _ => rfl, nn, nn, nn, nn, nn, nn, nn, nn, nn, nn, nn, nn, nn, nn, nn, nn, nn, nn, nn, nn⟩ (fun _ _ h => h)
      case s3 =>
        intro a w' hoff hg hdep K hK
        obtain ⟨v2, e2, f2⟩ := hdep 2 _ 38 (by kernel_rfl) rfl rfl
        obtain rfl := (f2.2.2.1 rfl).symm
        rw [if_pos (by rfl)]
        obtain ⟨p0, p1, p2, p3, p4, p5⟩ := (X2.out.on hg).cells
        go_simp
        exact hK.out _ _ hg ⟨nn, nn, nn, fun _ => rfl, nn, nn, nn, nn, nn, nn, nn, nn, nn, nn, nn, nn, nn, nn, nn, nn, nn, nn, nn⟩ (fun _ _ h => h)
      case s4 =>
        intro a w' hoff hg hdep K hK
        obtain ⟨v3, e3, f3⟩ := hdep 3 _ 39 (by kernel_rfl) rfl rfl
        obtain rfl := (f3.2.2.2.1 rfl).symm
        rw [if_pos (by rfl)]
        go_simp
        refine (v_any (x.n0) w' HX.out.2.2.1).mono ?_
        rintro e w2' ⟨rfl, hb⟩
        exact hK.out _ _ (Below.step hg hb) ⟨nn, nn, nn, nn, fun _ => rfl, nn, nn, nn, nn, nn, nn, nn, nn, nn, nn, nn, nn, nn, nn, nn, nn, nn, nn⟩ (fun _ _ h => ⟨h.1, h.2.1, h.2.2.1, h.2.2.2.1, h.2.2.2.2.1, h.2.2.2.2.2.1, h.2.2.2.2.2.2.1, h.2.2.2.2.2.2.2.1, h.2.2.2.2.2.2.2.2.1, h.2.2.2.2.2.2.2.2.2.1, h.2.2.2.2.2.2.2.2.2.2.1, h.2.2.2.2.2.2.2.2.2.2.2.1, h.2.2.2.2.2.2.2.2.2.2.2.2.1, h.2.2.2.2.2.2.2.2.2.2.2.2.2.1, fun e => TwoAt.stay hb (h.2.2.2.2.2.2.2.2.2.2.2.2.2.2.1 e), h.2.2.2.2.2.2.2.2.2.2.2.2.2.2.2.1, h.2.2.2.2.2.2.2.2.2.2.2.2.2.2.2.2.1, h.2.2.2.2.2.2.2.2.2.2.2.2.2.2.2.2.2.1, h.2.2.2.2.2.2.2.2.2.2.2.2.2.2.2.2.2.2.1, fun e => TmPtr.stay hb (h.2.2.2.2.2.2.2.2.2.2.2.2.2.2.2.2.2.2.2.1 e), h.2.2.2.2.2.2.2.2.2.2.2.2.2.2.2.2.2.2.2.2.1, fun e => RowSix.stay hb (h.2.2.2.2.2.2.2.2.2.2.2.2.2.2.2.2.2.2.2.2.2.1 e), fun e => (h.2.2.2.2.2.2.2.2.2.2.2.2.2.2.2.2.2.2.2.2.2.2 e).elim fun sl hs => ⟨sl, hs.1, RowSix.stay hb hs.2⟩⟩)
      case s5 =>
        intro a w' hoff hg hdep K hK
        have h1 := off_at hoff 1 (v := .pointer (some ⟨w.heap.size, 0, none⟩)) (by kernel_rfl) rfl
        rw [if_pos (by rfl)]
        go_simp
        exact hK.out _ _ hg ⟨nn, nn, nn, nn, nn, fun _ => rfl, nn, nn, nn, nn, nn, nn, nn, nn, nn, nn, nn, nn, nn, nn, nn, nn, nn⟩ (fun _ _ h => h)
      case s6 =>
        intro a w' hoff hg hdep K hK
        obtain ⟨v5, e5, f5⟩ := hdep 5 _ 41 (by kernel_rfl) rfl rfl
        obtain rfl := (f5.2.2.2.2.2.1 rfl).symm
        rw [if_pos (by rfl)]
        go_simp
        exact hK.out _ _ hg ⟨nn, nn, nn, nn, nn, nn, fun _ => rfl, nn, nn, nn, nn, nn, nn, nn, nn, nn, nn, nn, nn, nn, nn, nn, nn⟩ (fun _ _ h => h)
      case s7 =>
        intro a w' hoff hg hdep K hK
        obtain ⟨v6, e6, f6⟩ := hdep 6 _ 42 (by kernel_rfl) rfl rfl
        obtain rfl := (f6.2.2.2.2.2.2.1 rfl).symm
        rw [if_pos (by rfl)]
        obtain ⟨p0, p1, p2, p3, p4, p5⟩ := (X2.out.on hg).cells
        go_simp
        exact hK.out _ _ hg ⟨nn, nn, nn, nn, nn, nn, nn, fun _ => rfl, nn, nn, nn, nn, nn, nn, nn, nn, nn, nn, nn, nn, nn, nn, nn⟩ (fun _ _ h => h)
      case s8 =>
        intro a w' hoff hg hdep K hK
        obtain ⟨v7, e7, f7⟩ := hdep 7 _ 43 (by kernel_rfl) rfl rfl
        obtain rfl := (f7.2.2.2.2.2.2.2.1 rfl).symm
        rw [if_pos (by rfl)]
        go_simp
        refine (pick6_any (x.n2) 4 w' HX.out.2.2.2.2.1 (by omega) (by omega)).mono ?_
        rintro e w2' ⟨rfl, rfl⟩
        have hb := Below.refl w'.heap.size w'
        exact hK.out _ _ (Below.step hg hb) ⟨nn, nn, nn, nn, nn, nn, nn, nn, fun _ => rfl, nn, nn, nn, nn, nn, nn, nn, nn, nn, nn, nn, nn, nn, nn⟩ (fun _ _ h => ⟨h.1, h.2.1, h.2.2.1, h.2.2.2.1, h.2.2.2.2.1, h.2.2.2.2.2.1, h.2.2.2.2.2.2.1, h.2.2.2.2.2.2.2.1, h.2.2.2.2.2.2.2.2.1, h.2.2.2.2.2.2.2.2.2.1, h.2.2.2.2.2.2.2.2.2.2.1, h.2.2.2.2.2.2.2.2.2.2.2.1, h.2.2.2.2.2.2.2.2.2.2.2.2.1, h.2.2.2.2.2.2.2.2.2.2.2.2.2.1, fun e => TwoAt.stay hb (h.2.2.2.2.2.2.2.2.2.2.2.2.2.2.1 e), h.2.2.2.2.2.2.2.2.2.2.2.2.2.2.2.1, h.2.2.2.2.2.2.2.2.2.2.2.2.2.2.2.2.1, h.2.2.2.2.2.2.2.2.2.2.2.2.2.2.2.2.2.1, h.2.2.2.2.2.2.2.2.2.2.2.2.2.2.2.2.2.2.1, fun e => TmPtr.stay hb (h.2.2.2.2.2.2.2.2.2.2.2.2.2.2.2.2.2.2.2.1 e), h.2.2.2.2.2.2.2.2.2.2.2.2.2.2.2.2.2.2.2.2.1, fun e => RowSix.stay hb (h.2.2.2.2.2.2.2.2.2.2.2.2.2.2.2.2.2.2.2.2.2.1 e), fun e => (h.2.2.2.2.2.2.2.2.2.2.2.2.2.2.2.2.2.2.2.2.2.2 e).elim fun sl hs => ⟨sl, hs.1, RowSix.stay hb hs.2⟩⟩)
      case s9 =>
        intro a w' hoff hg hdep K hK
        obtain ⟨v8, e8, f8⟩ := hdep 8 _ 44 (by kernel_rfl) rfl rfl
        obtain rfl := (f8.2.2.2.2.2.2.2.2.1 rfl).symm
        rw [if_pos (by rfl)]
        go_simp
        refine (num_any (pickZ x.n2 4) w').mono ?_
        rintro e w2' ⟨rfl, hb⟩
        exact hK.out _ _ (Below.step hg hb) ⟨nn, nn, nn, nn, nn, nn, nn, nn, nn, fun _ => rfl, nn, nn, nn, nn, nn, nn, nn, nn, nn, nn, nn, nn, nn⟩ (fun _ _ h => ⟨h.1, h.2.1, h.2.2.1, h.2.2.2.1, h.2.2.2.2.1, h.2.2.2.2.2.1, h.2.2.2.2.2.2.1, h.2.2.2.2.2.2.2.1, h.2.2.2.2.2.2.2.2.1, h.2.2.2.2.2.2.2.2.2.1, h.2.2.2.2.2.2.2.2.2.2.1, h.2.2.2.2.2.2.2.2.2.2.2.1, h.2.2.2.2.2.2.2.2.2.2.2.2.1, h.2.2.2.2.2.2.2.2.2.2.2.2.2.1, fun e => TwoAt.stay hb (h.2.2.2.2.2.2.2.2.2.2.2.2.2.2.1 e), h.2.2.2.2.2.2.2.2.2.2.2.2.2.2.2.1, h.2.2.2.2.2.2.2.2.2.2.2.2.2.2.2.2.1, h.2.2.2.2.2.2.2.2.2.2.2.2.2.2.2.2.2.1, h.2.2.2.2.2.2.2.2.2.2.2.2.2.2.2.2.2.2.1, fun e => TmPtr.stay hb (h.2.2.2.2.2.2.2.2.2.2.2.2.2.2.2.2.2.2.2.1 e), h.2.2.2.2.2.2.2.2.2.2.2.2.2.2.2.2.2.2.2.2.1, fun e => RowSix.stay hb (h.2.2.2.2.2.2.2.2.2.2.2.2.2.2.2.2.2.2.2.2.2.1 e), fun e => (h.2.2.2.2.2.2.2.2.2.2.2.2.2.2.2.2.2.2.2.2.2.2 e).elim fun sl hs => ⟨sl, hs.1, RowSix.stay hb hs.2⟩⟩)
      case s10 =>
        intro a w' hoff hg hdep K hK
        have h1 := off_at hoff 1 (v := .pointer (some ⟨w.heap.size, 0, none⟩)) (by kernel_rfl) rfl
        rw [if_pos (by rfl)]
        go_simp
        exact hK.out _ _ hg ⟨nn, nn, nn, nn, nn, nn, nn, nn, nn, nn, fun _ => rfl, nn, nn, nn, nn, nn, nn, nn, nn, nn, nn, nn, nn⟩ (fun _ _ h => h)
      case s11 =>
        intro a w' hoff hg hdep K hK
        obtain ⟨v10, e10, f10⟩ := hdep 10 _ 46 (by kernel_rfl) rfl rfl
        obtain rfl := (f10.2.2.2.2.2.2.2.2.2.2.1 rfl).symm
        rw [if_pos (by rfl)]
        go_simp
        exact hK.out _ _ hg ⟨nn, nn, nn, nn, nn, nn, nn, nn, nn, nn, nn, fun _ => rfl, nn, nn, nn, nn, nn, nn, nn, nn, nn, nn, nn⟩ (fun _ _ h => h)
      case s12 =>
        intro a w' hoff hg hdep K hK
        obtain ⟨v11, e11, f11⟩ := hdep 11 _ 47 (by kernel_rfl) rfl rfl
        obtain rfl := (f11.2.2.2.2.2.2.2.2.2.2.2.1 rfl).symm
        rw [if_pos (by rfl)]
        obtain ⟨p0, p1, p2, p3, p4, p5⟩ := (X2.out.on hg).cells
        go_simp
        exact hK.out _ _ hg ⟨nn, nn, nn, nn, nn, nn, nn, nn, nn, nn, nn, nn, fun _ => rfl, nn, nn, nn, nn, nn, nn, nn, nn, nn, nn⟩ (fun _ _ h => h)
      case s13 =>
        intro a w' hoff hg hdep K hK
        obtain ⟨v12, e12, f12⟩ := hdep 12 _ 48 (by kernel_rfl) rfl rfl
        obtain rfl := (f12.2.2.2.2.2.2.2.2.2.2.2.2.1 rfl).symm
        rw [if_pos (by rfl)]
        go_simp
        refine (v_any (x.n1) w' HX.out.2.2.2.1).mono ?_
        rintro e w2' ⟨rfl, hb⟩
        exact hK.out _ _ (Below.step hg hb) ⟨nn, nn, nn, nn, nn, nn, nn, nn, nn, nn, nn, nn, nn, fun _ => rfl, nn, nn, nn, nn, nn, nn, nn, nn, nn⟩ (fun _ _ h => ⟨h.1, h.2.1, h.2.2.1, h.2.2.2.1, h.2.2.2.2.1, h.2.2.2.2.2.1, h.2.2.2.2.2.2.1, h.2.2.2.2.2.2.2.1, h.2.2.2.2.2.2.2.2.1, h.2.2.2.2.2.2.2.2.2.1, h.2.2.2.2.2.2.2.2.2.2.1, h.2.2.2.2.2.2.2.2.2.2.2.1, h.2.2.2.2.2.2.2.2.2.2.2.2.1, h.2.2.2.2.2.2.2.2.2.2.2.2.2.1, fun e => TwoAt.stay hb (h.2.2.2.2.2.2.2.2.2.2.2.2.2.2.1 e), h.2.2.2.2.2.2.2.2.2.2.2.2.2.2.2.1, h.2.2.2.2.2.2.2.2.2.2.2.2.2.2.2.2.1, h.2.2.2.2.2.2.2.2.2.2.2.2.2.2.2.2.2.1, h.2.2.2.2.2.2.2.2.2.2.2.2.2.2.2.2.2.2.1, fun e => TmPtr.stay hb (h.2.2.2.2.2.2.2.2.2.2.2.2.2.2.2.2.2.2.2.1 e), h.2.2.2.2.2.2.2.2.2.2.2.2.2.2.2.2.2.2.2.2.1, fun e => RowSix.stay hb (h.2.2.2.2.2.2.2.2.2.2.2.2.2.2.2.2.2.2.2.2.2.1 e), fun e => (h.2.2.2.2.2.2.2.2.2.2.2.2.2.2.2.2.2.2.2.2.2.2 e).elim fun sl hs => ⟨sl, hs.1, RowSix.stay hb hs.2⟩⟩)
      case s14 =>
        intro a w' hoff hg hdep K hK
        obtain ⟨v9, e9, f9⟩ := hdep 9 _ 45 (by kernel_rfl) rfl rfl
        obtain rfl := (f9.2.2.2.2.2.2.2.2.2.1 rfl).symm
        obtain ⟨v13, e13, f13⟩ := hdep 13 _ 49 (by kernel_rfl) rfl rfl
        obtain rfl := (f13.2.2.2.2.2.2.2.2.2.2.2.2.2.1 rfl).symm
        rw [if_pos (by rfl)]
        go_simp
        have hb := below_alloc w' (.cells #[.int .i64 2, .string ⟨#[]⟩, .int .i64 1, .int .i64 (pickZ x.n2 4), .string ⟨#[]⟩, .slice none 0 0, .slice none 0 0, .int .i64 1, .string (vName (pickZ (x.n1) 6).toNat), .int .i64 0, .int .i64 0, .string ⟨#[]⟩, .slice none 0 0, .slice none 0 0] 48)
        have hp : TwoAt #[.int .i64 2, .string ⟨#[]⟩, .int .i64 1, .int .i64 (pickZ x.n2 4), .string ⟨#[]⟩, .slice none 0 0, .slice none 0 0, .int .i64 1, .string (vName (pickZ (x.n1) 6).toNat), .int .i64 0, .int .i64 0, .string ⟨#[]⟩, .slice none 0 0, .slice none 0 0] (w'.alloc (.cells #[.int .i64 2, .string ⟨#[]⟩, .int .i64 1, .int .i64 (pickZ x.n2 4), .string ⟨#[]⟩, .slice none 0 0, .slice none 0 0, .int .i64 1, .string (vName (pickZ (x.n1) 6).toNat), .int .i64 0, .int .i64 0, .string ⟨#[]⟩, .slice none 0 0, .slice none 0 0] 48)) (.slice (some ⟨w'.heap.size, 0, none⟩) 2 2) := ⟨_, rfl, alloc_new' _ _⟩
        exact hK.out _ _ (Below.step hg hb) ⟨nn, nn, nn, nn, nn, nn, nn, nn, nn, nn, nn, nn, nn, nn, fun _ => hp, nn, nn, nn, nn, nn, nn, nn, nn⟩ (fun _ _ h => ⟨h.1, h.2.1, h.2.2.1, h.2.2.2.1, h.2.2.2.2.1, h.2.2.2.2.2.1, h.2.2.2.2.2.2.1, h.2.2.2.2.2.2.2.1, h.2.2.2.2.2.2.2.2.1, h.2.2.2.2.2.2.2.2.2.1, h.2.2.2.2.2.2.2.2.2.2.1, h.2.2.2.2.2.2.2.2.2.2.2.1, h.2.2.2.2.2.2.2.2.2.2.2.2.1, h.2.2.2.2.2.2.2.2.2.2.2.2.2.1, fun e => TwoAt.stay hb (h.2.2.2.2.2.2.2.2.2.2.2.2.2.2.1 e), h.2.2.2.2.2.2.2.2.2.2.2.2.2.2.2.1, h.2.2.2.2.2.2.2.2.2.2.2.2.2.2.2.2.1, h.2.2.2.2.2.2.2.2.2.2.2.2.2.2.2.2.2.1, h.2.2.2.2.2.2.2.2.2.2.2.2.2.2.2.2.2.2.1, fun e => TmPtr.stay hb (h.2.2.2.2.2.2.2.2.2.2.2.2.2.2.2.2.2.2.2.1 e), h.2.2.2.2.2.2.2.2.2.2.2.2.2.2.2.2.2.2.2.2.1, fun e => RowSix.stay hb (h.2.2.2.2.2.2.2.2.2.2.2.2.2.2.2.2.2.2.2.2.2.1 e), fun e => (h.2.2.2.2.2.2.2.2.2.2.2.2.2.2.2.2.2.2.2.2.2.2 e).elim fun sl hs => ⟨sl, hs.1, RowSix.stay hb hs.2⟩⟩)
      case s15 =>
        intro a w' hoff hg hdep K hK
        have h1 := off_at hoff 1 (v := .pointer (some ⟨w.heap.size, 0, none⟩)) (by kernel_rfl) rfl
        rw [if_pos (by rfl)]
        go_simp
        exact hK.out _ _ hg ⟨nn, nn, nn, nn, nn, nn, nn, nn, nn, nn, nn, nn, nn, nn, nn, fun _ => rfl, nn, nn, nn, nn, nn, nn, nn⟩ (fun _ _ h => h)
      case s16 =>
        intro a w' hoff hg hdep K hK
        obtain ⟨v15, e15, f15⟩ := hdep 15 _ 51 (by kernel_rfl) rfl rfl
        obtain rfl := (f15.2.2.2.2.2.2.2.2.2.2.2.2.2.2.2.1 rfl).symm
        rw [if_pos (by rfl)]
        go_simp
        exact hK.out _ _ hg ⟨nn, nn, nn, nn, nn, nn, nn, nn, nn, nn, nn, nn, nn, nn, nn, nn, fun _ => rfl, nn, nn, nn, nn, nn, nn⟩ (fun _ _ h => h)
      case s17 =>
        intro a w' hoff hg hdep K hK
        obtain ⟨v16, e16, f16⟩ := hdep 16 _ 52 (by kernel_rfl) rfl rfl
        obtain rfl := (f16.2.2.2.2.2.2.2.2.2.2.2.2.2.2.2.2.1 rfl).symm
        rw [if_pos (by rfl)]
        obtain ⟨p0, p1, p2, p3, p4, p5⟩ := (X2.out.on hg).cells
        go_simp
        exact hK.out _ _ hg ⟨nn, nn, nn, nn, nn, nn, nn, nn, nn, nn, nn, nn, nn, nn, nn, nn, nn, fun _ => rfl, nn, nn, nn, nn, nn⟩ (fun _ _ h => h)
      case s18 =>
        intro a w' hoff hg hdep K hK
        obtain ⟨v17, e17, f17⟩ := hdep 17 _ 53 (by kernel_rfl) rfl rfl
        obtain rfl := (f17.2.2.2.2.2.2.2.2.2.2.2.2.2.2.2.2.2.1 rfl).symm
        rw [if_pos (by rfl)]
        go_simp
        refine (pick6_any (x.n3) 2 w' HX.out.2.2.2.2.2 (by omega) (by omega)).mono ?_
        rintro e w2' ⟨rfl, rfl⟩
        rw [HM.out]
        have hb := Below.refl w'.heap.size w'
        exact hK.out _ _ (Below.step hg hb) ⟨nn, nn, nn, nn, nn, nn, nn, nn, nn, nn, nn, nn, nn, nn, nn, nn, nn, nn, fun _ => rfl, nn, nn, nn, nn⟩ (fun _ _ h => ⟨h.1, h.2.1, h.2.2.1, h.2.2.2.1, h.2.2.2.2.1, h.2.2.2.2.2.1, h.2.2.2.2.2.2.1, h.2.2.2.2.2.2.2.1, h.2.2.2.2.2.2.2.2.1, h.2.2.2.2.2.2.2.2.2.1, h.2.2.2.2.2.2.2.2.2.2.1, h.2.2.2.2.2.2.2.2.2.2.2.1, h.2.2.2.2.2.2.2.2.2.2.2.2.1, h.2.2.2.2.2.2.2.2.2.2.2.2.2.1, fun e => TwoAt.stay hb (h.2.2.2.2.2.2.2.2.2.2.2.2.2.2.1 e), h.2.2.2.2.2.2.2.2.2.2.2.2.2.2.2.1, h.2.2.2.2.2.2.2.2.2.2.2.2.2.2.2.2.1, h.2.2.2.2.2.2.2.2.2.2.2.2.2.2.2.2.2.1, h.2.2.2.2.2.2.2.2.2.2.2.2.2.2.2.2.2.2.1, fun e => TmPtr.stay hb (h.2.2.2.2.2.2.2.2.2.2.2.2.2.2.2.2.2.2.2.1 e), h.2.2.2.2.2.2.2.2.2.2.2.2.2.2.2.2.2.2.2.2.1, fun e => RowSix.stay hb (h.2.2.2.2.2.2.2.2.2.2.2.2.2.2.2.2.2.2.2.2.2.1 e), fun e => (h.2.2.2.2.2.2.2.2.2.2.2.2.2.2.2.2.2.2.2.2.2.2 e).elim fun sl hs => ⟨sl, hs.1, RowSix.stay hb hs.2⟩⟩)
      case s19 =>
        intro a w' hoff hg hdep K hK
        obtain ⟨v14, e14, f14⟩ := hdep 14 _ 50 (by kernel_rfl) rfl rfl
        have g14 := f14.2.2.2.2.2.2.2.2.2.2.2.2.2.2.1 rfl
        obtain ⟨v18, e18, f18⟩ := hdep 18 _ 54 (by kernel_rfl) rfl rfl
        obtain rfl := (f18.2.2.2.2.2.2.2.2.2.2.2.2.2.2.2.2.2.2.1 rfl).symm
        obtain ⟨b50, rfl, k50⟩ := g14
        have hp := two_ptr0 k50
        rw [if_pos (by rfl)]
        go_simp
        exact hK.out _ _ hg ⟨nn, nn, nn, nn, nn, nn, nn, nn, nn, nn, nn, nn, nn, nn, nn, nn, nn, nn, nn, fun _ => hp, nn, nn, nn⟩ (fun _ _ h => h)
      case s20 =>
        intro a w' hoff hg hdep K hK
        obtain ⟨v19, e19, f19⟩ := hdep 19 _ 55 (by kernel_rfl) rfl rfl
        have g19 := f19.2.2.2.2.2.2.2.2.2.2.2.2.2.2.2.2.2.2.2.1 rfl
        obtain ⟨b55, rfl, l55, t0, t1, t2, t3, t4, t5, t6⟩ := g19
        rw [if_pos (by rfl)]
        obtain ⟨p0, p1, p2, p3, p4, p5⟩ := (X2.out.on hg).cells
        go_simp
        exact hK.out _ _ hg ⟨nn, nn, nn, nn, nn, nn, nn, nn, nn, nn, nn, nn, nn, nn, nn, nn, nn, nn, nn, nn, fun _ => rfl, nn, nn⟩ (fun _ _ h => h)
      case s21 =>
        intro a w' hoff hg hdep K hK
        obtain ⟨v4, e4, f4⟩ := hdep 4 _ 40 (by kernel_rfl) rfl rfl
        obtain rfl := (f4.2.2.2.2.1 rfl).symm
        obtain ⟨v20, e20, f20⟩ := hdep 20 _ 56 (by kernel_rfl) rfl rfl
        obtain rfl := (f20.2.2.2.2.2.2.2.2.2.2.2.2.2.2.2.2.2.2.2.2.1 rfl).symm
        rw [if_pos (by rfl)]
        go_simp
        have hb := below_alloc w' (.cells #[.int .i64 1, .string (vName (pickZ (x.n0) 6).toNat), .int .i64 0, .int .i64 0, .string ⟨#[]⟩, .slice none 0 0, .slice none 0 0, .int .i64 2, .string ⟨#[]⟩, .int .i64 1, .int .i64 (pickZ x.n2 4), .string ⟨#[]⟩, .slice none 0 0, .slice none 0 0] 48)
        have hp := row_two (B := (w.heap.size + 2)) (w := w') (y := vTm (pickZ x.n0 6).toNat) (z := numZ (pickZ x.n2 4)) (Nat.le_trans HSZ.out hg.size) (vTm_rep _ _ _) (numZ_rep _ _ HN4.out)
        exact hK.out _ _ (Below.step hg hb) ⟨nn, nn, nn, nn, nn, nn, nn, nn, nn, nn, nn, nn, nn, nn, nn, nn, nn, nn, nn, nn, nn, fun _ => hp, nn⟩ (fun _ _ h => ⟨h.1, h.2.1, h.2.2.1, h.2.2.2.1, h.2.2.2.2.1, h.2.2.2.2.2.1, h.2.2.2.2.2.2.1, h.2.2.2.2.2.2.2.1, h.2.2.2.2.2.2.2.2.1, h.2.2.2.2.2.2.2.2.2.1, h.2.2.2.2.2.2.2.2.2.2.1, h.2.2.2.2.2.2.2.2.2.2.2.1, h.2.2.2.2.2.2.2.2.2.2.2.2.1, h.2.2.2.2.2.2.2.2.2.2.2.2.2.1, fun e => TwoAt.stay hb (h.2.2.2.2.2.2.2.2.2.2.2.2.2.2.1 e), h.2.2.2.2.2.2.2.2.2.2.2.2.2.2.2.1, h.2.2.2.2.2.2.2.2.2.2.2.2.2.2.2.2.1, h.2.2.2.2.2.2.2.2.2.2.2.2.2.2.2.2.2.1, h.2.2.2.2.2.2.2.2.2.2.2.2.2.2.2.2.2.2.1, fun e => TmPtr.stay hb (h.2.2.2.2.2.2.2.2.2.2.2.2.2.2.2.2.2.2.2.1 e), h.2.2.2.2.2.2.2.2.2.2.2.2.2.2.2.2.2.2.2.2.1, fun e => RowSix.stay hb (h.2.2.2.2.2.2.2.2.2.2.2.2.2.2.2.2.2.2.2.2.2.1 e), fun e => (h.2.2.2.2.2.2.2.2.2.2.2.2.2.2.2.2.2.2.2.2.2.2 e).elim fun sl hs => ⟨sl, hs.1, RowSix.stay hb hs.2⟩⟩)
      case s22 =>
        intro a w' hoff hg hdep K hK
        obtain ⟨v0, e0, f0⟩ := hdep 0 _ 36 (by kernel_rfl) rfl rfl
        obtain rfl := (f0.1 rfl).symm
        obtain ⟨v21, e21, f21⟩ := hdep 21 _ 57 (by kernel_rfl) rfl rfl
        have g21 := f21.2.2.2.2.2.2.2.2.2.2.2.2.2.2.2.2.2.2.2.2.2.1 rfl
        obtain ⟨ra, rn, rc, rfl, k57⟩ := g21
        have hp : ∃ sl, (.agg #[.int .i64 3, .string (cmp6 j), .slice ra rn rc] : Value) = .agg #[.int .i64 3, .string (cmp6 j), sl] ∧ RowSix (w.heap.size + 2) [vTm (pickZ x.n0 6).toNat, numZ (pickZ x.n2 4)] w' sl := ⟨_, rfl, _, _, _, rfl, k57⟩
        rw [if_pos (by rfl)]
        go_simp
        exact hK.out _ _ hg ⟨nn, nn, nn, nn, nn, nn, nn, nn, nn, nn, nn, nn, nn, nn, nn, nn, nn, nn, nn, nn, nn, nn, fun _ => hp⟩ (fun _ _ h => h)
      case last =>
        intro a w' hoff hg hf
        obtain ⟨v0, e0, f0⟩ := hf 0 _ 36 (by decide) rfl rfl
        obtain rfl := (f0.1 rfl).symm
        obtain ⟨v1, e1, f1⟩ := hf 1 _ 37 (by decide) rfl rfl
        obtain rfl := (f1.2.1 rfl).symm
        obtain ⟨v2, e2, f2⟩ := hf 2 _ 38 (by decide) rfl rfl
        obtain rfl := (f2.2.2.1 rfl).symm
        obtain ⟨v3, e3, f3⟩ := hf 3 _ 39 (by decide) rfl rfl
        obtain rfl := (f3.2.2.2.1 rfl).symm
        obtain ⟨v4, e4, f4⟩ := hf 4 _ 40 (by decide) rfl rfl
        obtain rfl := (f4.2.2.2.2.1 rfl).symm
        obtain ⟨v5, e5, f5⟩ := hf 5 _ 41 (by decide) rfl rfl
        obtain rfl := (f5.2.2.2.2.2.1 rfl).symm
        obtain ⟨v6, e6, f6⟩ := hf 6 _ 42 (by decide) rfl rfl
        obtain rfl := (f6.2.2.2.2.2.2.1 rfl).symm
        obtain ⟨v7, e7, f7⟩ := hf 7 _ 43 (by decide) rfl rfl
        obtain rfl := (f7.2.2.2.2.2.2.2.1 rfl).symm
        obtain ⟨v8, e8, f8⟩ := hf 8 _ 44 (by decide) rfl rfl
        obtain rfl := (f8.2.2.2.2.2.2.2.2.1 rfl).symm
        obtain ⟨v9, e9, f9⟩ := hf 9 _ 45 (by decide) rfl rfl
        obtain rfl := (f9.2.2.2.2.2.2.2.2.2.1 rfl).symm
        obtain ⟨v10, e10, f10⟩ := hf 10 _ 46 (by decide) rfl rfl
        obtain rfl := (f10.2.2.2.2.2.2.2.2.2.2.1 rfl).symm
        obtain ⟨v11, e11, f11⟩ := hf 11 _ 47 (by decide) rfl rfl
        obtain rfl := (f11.2.2.2.2.2.2.2.2.2.2.2.1 rfl).symm
        obtain ⟨v12, e12, f12⟩ := hf 12 _ 48 (by decide) rfl rfl
        obtain rfl := (f12.2.2.2.2.2.2.2.2.2.2.2.2.1 rfl).symm
        obtain ⟨v13, e13, f13⟩ := hf 13 _ 49 (by decide) rfl rfl
        obtain rfl := (f13.2.2.2.2.2.2.2.2.2.2.2.2.2.1 rfl).symm
        obtain ⟨v14, e14, f14⟩ := hf 14 _ 50 (by decide) rfl rfl
        have g14 := f14.2.2.2.2.2.2.2.2.2.2.2.2.2.2.1 rfl
        obtain ⟨v15, e15, f15⟩ := hf 15 _ 51 (by decide) rfl rfl
        obtain rfl := (f15.2.2.2.2.2.2.2.2.2.2.2.2.2.2.2.1 rfl).symm
        obtain ⟨v16, e16, f16⟩ := hf 16 _ 52 (by decide) rfl rfl
        obtain rfl := (f16.2.2.2.2.2.2.2.2.2.2.2.2.2.2.2.2.1 rfl).symm
        obtain ⟨v17, e17, f17⟩ := hf 17 _ 53 (by decide) rfl rfl
        obtain rfl := (f17.2.2.2.2.2.2.2.2.2.2.2.2.2.2.2.2.2.1 rfl).symm
        obtain ⟨v18, e18, f18⟩ := hf 18 _ 54 (by decide) rfl rfl
        obtain rfl := (f18.2.2.2.2.2.2.2.2.2.2.2.2.2.2.2.2.2.2.1 rfl).symm
        obtain ⟨v19, e19, f19⟩ := hf 19 _ 55 (by decide) rfl rfl
        have g19 := f19.2.2.2.2.2.2.2.2.2.2.2.2.2.2.2.2.2.2.2.1 rfl
        obtain ⟨v20, e20, f20⟩ := hf 20 _ 56 (by decide) rfl rfl
        obtain rfl := (f20.2.2.2.2.2.2.2.2.2.2.2.2.2.2.2.2.2.2.2.2.1 rfl).symm
        obtain ⟨v21, e21, f21⟩ := hf 21 _ 57 (by decide) rfl rfl
        have g21 := f21.2.2.2.2.2.2.2.2.2.2.2.2.2.2.2.2.2.2.2.2.2.1 rfl
        obtain ⟨v22, e22, f22⟩ := hf 22 _ 58 (by decide) rfl rfl
        have g22 := f22.2.2.2.2.2.2.2.2.2.2.2.2.2.2.2.2.2.2.2.2.2.2 rfl
        obtain ⟨sl, rfl, ra, rn, rc, rfl, k9⟩ := g22
        have R3 := Lib.hid (R2.out.on hg); have B3 := Lib.hid (Below.step B2.out hg)
        have z0 := frozen_of_row w' (w.heap.size + 1) 0 _ _ R3.out; have z1 := frozen_of_row w' (w.heap.size + 1) 1 _ _ R3.out; have z2 := frozen_of_row w' (w.heap.size + 1) 2 _ _ R3.out
        obtain ⟨r0, r1, r2⟩ := R3.out.cells
        rw [if_pos (by rfl)]
        rw [hoff.sets [(36, .string (cmp6 j)), (37, .pointer (some ⟨w.heap.size, 2, none⟩)), (38, .pointer (some ⟨w.heap.size, 2, none⟩)), (39, .int .i64 x.n0), (40, .agg #[.int .i64 1, .string (vName (pickZ (x.n0) 6).toNat), .int .i64 0, .int .i64 0, .string ⟨#[]⟩, .slice none 0 0, .slice none 0 0]), (41, .pointer (some ⟨w.heap.size, 2, none⟩)), (42, .pointer (some ⟨w.heap.size, 4, none⟩)), (43, .int .i64 x.n2), (44, .int .i64 (pickZ x.n2 4)), (45, .agg #[.int .i64 2, .string ⟨#[]⟩, .int .i64 1, .int .i64 (pickZ x.n2 4), .string ⟨#[]⟩, .slice none 0 0, .slice none 0 0]), (46, .pointer (some ⟨w.heap.size, 2, none⟩)), (47, .pointer (some ⟨w.heap.size, 3, none⟩)), (48, .int .i64 x.n1), (49, .agg #[.int .i64 1, .string (vName (pickZ (x.n1) 6).toNat), .int .i64 0, .int .i64 0, .string ⟨#[]⟩, .slice none 0 0, .slice none 0 0]), (50, v14), (51, .pointer (some ⟨w.heap.size, 2, none⟩)), (52, .pointer (some ⟨w.heap.size, 5, none⟩)), (53, .int .i64 x.n3), (54, .int .i64 0), (55, v19), (56, .agg #[.int .i64 2, .string ⟨#[]⟩, .int .i64 1, .int .i64 (pickZ x.n2 4), .string ⟨#[]⟩, .slice none 0 0, .slice none 0 0]), (57, v21), (58, .agg #[.int .i64 3, .string (cmp6 j), .slice ra rn rc])] (by kernel_rfl) (by intro p hp; simp only [List.mem_cons, List.not_mem_nil, or_false] at hp; rcases hp with rfl | rfl | rfl | rfl | rfl | rfl | rfl | rfl | rfl | rfl | rfl | rfl | rfl | rfl | rfl | rfl | rfl | rfl | rfl | rfl | rfl | rfl | rfl <;> assumption)]
        clear hoff hf e0 f0 e1 f1 e2 f2 e3 f3 e4 f4 e5 f5 e6 f6 e7 f7 e8 f8 e9 f9 e10 f10 e11 f11 e12 f12 e13 f13 e14 f14 e15 f15 e16 f16 e17 f17 e18 f18 e19 f19 e20 f20 e21 f21 e22 f22
        simp only [List.foldl_cons, List.foldl_nil, List.setIfInBounds_toArray, List.set_cons_zero, List.set_cons_succ]
        have HRL : Hid (RepLi (fun k => (w.heap.size + 2) ≤ k ∧ k < w'.heap.size) w' ⟨3, cmp6 j, [vTm (pickZ x.n0 6).toNat, numZ (pickZ x.n2 4)]⟩ (.int .i64 3) (.string (cmp6 j)) (.slice ra rn rc)) := ⟨rfl, rfl, small64 (show (0 : Int) ≤ 3 ∧ (3 : Int) ≤ 100 by decide), cmp6_size j, k9⟩
        clear k9
        go_simp
        clear r0 r1 r2 z0 z1 z2
        have R4 := boxLi_set R3.out (.int .i64 3) (.string (cmp6 j)) (.slice ra rn rc)
        have B4 : Below w.heap.size w (((w'.setCell ⟨w.heap.size + 1, 0, none⟩ (.int .i64 3)).setCell ⟨w.heap.size + 1, 1, none⟩ (.string (cmp6 j))).setCell ⟨w.heap.size + 1, 2, none⟩ (.slice ra rn rc)) := ((B3.out.setCell (p := ⟨w.heap.size + 1, 0, none⟩) (by simp) _).setCell (p := ⟨w.heap.size + 1, 1, none⟩) (by simp) _).setCell (p := ⟨w.heap.size + 1, 2, none⟩) (by simp) _
        have HRM : RepLi (fun k => w.heap.size ≤ k ∧ k < (((w'.setCell ⟨w.heap.size + 1, 0, none⟩ (.int .i64 3)).setCell ⟨w.heap.size + 1, 1, none⟩ (.string (cmp6 j))).setCell ⟨w.heap.size + 1, 2, none⟩ (.slice ra rn rc)).heap.size) (((w'.setCell ⟨w.heap.size + 1, 0, none⟩ (.int .i64 3)).setCell ⟨w.heap.size + 1, 1, none⟩ (.string (cmp6 j))).setCell ⟨w.heap.size + 1, 2, none⟩ (.slice ra rn rc)) ⟨3, cmp6 j, [vTm (pickZ x.n0 6).toNat, numZ (pickZ x.n2 4)]⟩ (.int .i64 3) (.string (cmp6 j)) (.slice ra rn rc) := RepLi.on (fun k hk => ⟨by omega, by simp [World.setCell]; exact hk.2⟩) (fun k hk => by rw [Below.heap_setCell _ _ _ _ (show k ≠ w.heap.size + 1 by omega), Below.heap_setCell _ _ _ _ (show k ≠ w.heap.size + 1 by omega), Below.heap_setCell _ _ _ _ (show k ≠ w.heap.size + 1 by omega)]) HRL.out
        have HB4 := Lib.hid B4; have HR4 := Lib.hid HRM
        clear B4 HRM HRL hg
        generalize (((w'.setCell ⟨w.heap.size + 1, 0, none⟩ (.int .i64 3)).setCell ⟨w.heap.size + 1, 1, none⟩ (.string (cmp6 j))).setCell ⟨w.heap.size + 1, 2, none⟩ (.slice ra rn rc)) = w9 at *
        obtain ⟨r0, r1, r2⟩ := R4.cells
        go_wp2_with fail
        rw [HLZ.out]
        exact bodyPost_ret (v := .agg #[.int .i64 3, .string (cmp6 j), .slice ra rn rc]) (by simp [results, Try.results36, go_sem, r0, r1, r2]) rfl ⟨_, rfl, HR4.out, HB4.out⟩
    · rw [if_neg (by omega)] at HLZ
      have HM := Lib.hid hm
      clear hm
      refine wp_region_factsL (by rfl) 92 (by rfl) (by kernel_rfl) (fun wz iz vz => (iz = 0 → vz = .string (cmp6 j)) ∧ (iz = 1 → vz = .pointer (some ⟨w.heap.size, 2, none⟩)) ∧ (iz = 2 → vz = .pointer (some ⟨w.heap.size, 2, none⟩)) ∧ (iz = 3 → vz = .int .i64 x.n0) ∧ (iz = 4 → vz = .agg #[.int .i64 1, .string (vName (pickZ (x.n0) 6).toNat), .int .i64 0, .int .i64 0, .string ⟨#[]⟩, .slice none 0 0, .slice none 0 0]) ∧ (iz = 5 → vz = .pointer (some ⟨w.heap.size, 2, none⟩)) ∧ (iz = 6 → vz = .pointer (some ⟨w.heap.size, 4, none⟩)) ∧ (iz = 7 → vz = .int .i64 x.n2) ∧ (iz = 8 → vz = .int .i64 (pickZ x.n2 4)) ∧ (iz = 9 → vz = .agg #[.int .i64 2, .string ⟨#[]⟩, .int .i64 1, .int .i64 (pickZ x.n2 4), .string ⟨#[]⟩, .slice none 0 0, .slice none 0 0]) ∧ (iz = 10 → vz = .pointer (some ⟨w.heap.size, 2, none⟩)) ∧ (iz = 11 → vz = .pointer (some ⟨w.heap.size, 3, none⟩)) ∧ (iz = 12 → vz = .int .i64 x.n1) ∧ (iz = 13 → vz = .agg #[.int .i64 1, .string (vName (pickZ (x.n1) 6).toNat), .int .i64 0, .int .i64 0, .string ⟨#[]⟩, .slice none 0 0, .slice none 0 0]) ∧ (iz = 14 → TwoAt #[.int .i64 2, .string ⟨#[]⟩, .int .i64 1, .int .i64 (pickZ x.n2 4), .string ⟨#[]⟩, .slice none 0 0, .slice none 0 0, .int .i64 1, .string (vName (pickZ (x.n1) 6).toNat), .int .i64 0, .int .i64 0, .string ⟨#[]⟩, .slice none 0 0, .slice none 0 0] wz vz) ∧ (iz = 15 → vz = .pointer (some ⟨w.heap.size, 2, none⟩)) ∧ (iz = 16 → vz = .pointer (some ⟨w.heap.size, 5, none⟩)) ∧ (iz = 17 → vz = .int .i64 x.n3) ∧ (iz = 18 → vz = .int .i64 1) ∧ (iz = 19 → TmPtr 7 (.int .i64 1) (.string (vName (pickZ (x.n1) 6).toNat)) (.int .i64 0) (.int .i64 0) (.string ⟨#[]⟩) (.slice none 0 0) (.slice none 0 0) wz vz) ∧ (iz = 20 → vz = .agg #[.int .i64 1, .string (vName (pickZ (x.n1) 6).toNat), .int .i64 0, .int .i64 0, .string ⟨#[]⟩, .slice none 0 0, .slice none 0 0]) ∧ (iz = 21 → RowSix (w.heap.size + 2) [vTm (pickZ x.n0 6).toNat, vTm (pickZ x.n1 6).toNat] wz vz) ∧ (iz = 22 → (∃ sl, vz = .agg #[.int .i64 3, .string (cmp6 j), sl] ∧ RowSix (w.heap.size + 2) [vTm (pickZ x.n0 6).toNat, vTm (pickZ x.n1 6).toNat] wz sl))) (fun w' => Below w2.heap.size w2 w') (Below.drew (Below.refl _ _)) ⟨?s0, ?s1, ?s2, ?s3, ?s4, ?s5, ?s6, ?s7, ?s8, ?s9, ?s10, ?s11, ?s12, ?s13, ?s14, ?s15, ?s16, ?s17, ?s18, ?s19, ?s20, ?s21, ?s22, trivial⟩ (by rfl) ?last (by decide)
      case s0 =>
        intro a w' hoff hg hdep K hK
        have h5 := off_at hoff 5 (v := .string (cmp6 j)) (by kernel_rfl) rfl
        rw [if_pos (by rfl)]
        go_simp
        exact hK.out _ _ hg ⟨fun _ => rfl, nn, nn, nn, nn, nn, nn, nn, nn, nn, nn, nn, nn, nn, nn, nn, nn, nn, nn, nn, nn, nn, nn⟩ (fun _ _ h => h)
      case s1 =>
        intro a w' hoff hg hdep K hK
        have h1 := off_at hoff 1 (v := .pointer (some ⟨w.heap.size, 0, none⟩)) (by kernel_rfl) rfl
        rw [if_pos (by rfl)]
        go_simp
        exact hK.out _ _ hg ⟨nn, fun _ => rfl, nn, nn, nn, nn, nn, nn, nn, nn, nn, nn, nn, nn, nn, nn, nn, nn, nn, nn, nn, nn, nn⟩ (fun _ _ h => h)
      case s2 =>
        intro a w' hoff hg hdep K hK
        obtain ⟨v1, e1, f1⟩ := hdep 1 _ 37 (by kernel_rfl) rfl rfl
        obtain rfl := (f1.2.1 rfl).symm
        rw [if_pos (by rfl)]
        go_simp
        exact hK.out _ _ hg ⟨nn, nn, fun _ => rfl, nn, nn, nn, nn, nn, nn, nn, nn, nn, nn, nn, nn, nn, nn, nn, nn, nn, nn, nn, nn⟩ (fun _ _ h => h)
      case s3 =>
        intro a w' hoff hg hdep K hK
        obtain ⟨v2, e2, f2⟩ := hdep 2 _ 38 (by kernel_rfl) rfl rfl
        obtain rfl := (f2.2.2.1 rfl).symm
        rw [if_pos (by rfl)]
        obtain ⟨p0, p1, p2, p3, p4, p5⟩ := (X2.out.on hg).cells
        go_simp
        exact hK.out _ _ hg ⟨nn, nn, nn, fun _ => rfl, nn, nn, nn, nn, nn, nn, nn, nn, nn, nn, nn, nn, nn, nn, nn, nn, nn, nn, nn⟩ (fun _ _ h => h)
      case s4 =>
        intro a w' hoff hg hdep K hK
        obtain ⟨v3, e3, f3⟩ := hdep 3 _ 39 (by kernel_rfl) rfl rfl
        obtain rfl := (f3.2.2.2.1 rfl).symm
        rw [if_pos (by rfl)]
        go_simp
        refine (v_any (x.n0) w' HX.out.2.2.1).mono ?_
        rintro e w2' ⟨rfl, hb⟩
        exact hK.out _ _ (Below.step hg hb) ⟨nn, nn, nn, nn, fun _ => rfl, nn, nn, nn, nn, nn, nn, nn, nn, nn, nn, nn, nn, nn, nn, nn, nn, nn, nn⟩ (fun _ _ h => ⟨h.1, h.2.1, h.2.2.1, h.2.2.2.1, h.2.2.2.2.1, h.2.2.2.2.2.1, h.2.2.2.2.2.2.1, h.2.2.2.2.2.2.2.1, h.2.2.2.2.2.2.2.2.1, h.2.2.2.2.2.2.2.2.2.1, h.2.2.2.2.2.2.2.2.2.2.1, h.2.2.2.2.2.2.2.2.2.2.2.1, h.2.2.2.2.2.2.2.2.2.2.2.2.1, h.2.2.2.2.2.2.2.2.2.2.2.2.2.1, fun e => TwoAt.stay hb (h.2.2.2.2.2.2.2.2.2.2.2.2.2.2.1 e), h.2.2.2.2.2.2.2.2.2.2.2.2.2.2.2.1, h.2.2.2.2.2.2.2.2.2.2.2.2.2.2.2.2.1, h.2.2.2.2.2.2.2.2.2.2.2.2.2.2.2.2.2.1, h.2.2.2.2.2.2.2.2.2.2.2.2.2.2.2.2.2.2.1, fun e => TmPtr.stay hb (h.2.2.2.2.2.2.2.2.2.2.2.2.2.2.2.2.2.2.2.1 e), h.2.2.2.2.2.2.2.2.2.2.2.2.2.2.2.2.2.2.2.2.1, fun e => RowSix.stay hb (h.2.2.2.2.2.2.2.2.2.2.2.2.2.2.2.2.2.2.2.2.2.1 e), fun e => (h.2.2.2.2.2.2.2.2.2.2.2.2.2.2.2.2.2.2.2.2.2.2 e).elim fun sl hs => ⟨sl, hs.1, RowSix.stay hb hs.2⟩⟩)
      case s5 =>
        intro a w' hoff hg hdep K hK
        have h1 := off_at hoff 1 (v := .pointer (some ⟨w.heap.size, 0, none⟩)) (by kernel_rfl) rfl
        rw [if_pos (by rfl)]
        go_simp
        exact hK.out _ _ hg ⟨nn, nn, nn, nn, nn, fun _ => rfl, nn, nn, nn, nn, nn, nn, nn, nn, nn, nn, nn, nn, nn, nn, nn, nn, nn⟩ (fun _ _ h => h)
      case s6 =>
        intro a w' hoff hg hdep K hK
        obtain ⟨v5, e5, f5⟩ := hdep 5 _ 41 (by kernel_rfl) rfl rfl
        obtain rfl := (f5.2.2.2.2.2.1 rfl).symm
        rw [if_pos (by rfl)]
        go_simp
        exact hK.out _ _ hg ⟨nn, nn, nn, nn, nn, nn, fun _ => rfl, nn, nn, nn, nn, nn, nn, nn, nn, nn, nn, nn, nn, nn, nn, nn, nn⟩ (fun _ _ h => h)
      case s7 =>
        intro a w' hoff hg hdep K hK
        obtain ⟨v6, e6, f6⟩ := hdep 6 _ 42 (by kernel_rfl) rfl rfl
        obtain rfl := (f6.2.2.2.2.2.2.1 rfl).symm
        rw [if_pos (by rfl)]
        obtain ⟨p0, p1, p2, p3, p4, p5⟩ := (X2.out.on hg).cells
        go_simp
        exact hK.out _ _ hg ⟨nn, nn, nn, nn, nn, nn, nn, fun _ => rfl, nn, nn, nn, nn, nn, nn, nn, nn, nn, nn, nn, nn, nn, nn, nn⟩ (fun _ _ h => h)
      case s8 =>
        intro a w' hoff hg hdep K hK
        obtain ⟨v7, e7, f7⟩ := hdep 7 _ 43 (by kernel_rfl) rfl rfl
        obtain rfl := (f7.2.2.2.2.2.2.2.1 rfl).symm
        rw [if_pos (by rfl)]
        go_simp
        refine (pick6_any (x.n2) 4 w' HX.out.2.2.2.2.1 (by omega) (by omega)).mono ?_
        rintro e w2' ⟨rfl, rfl⟩
        have hb := Below.refl w'.heap.size w'
        exact hK.out _ _ (Below.step hg hb) ⟨nn, nn, nn, nn, nn, nn, nn, nn, fun _ => rfl, nn, nn, nn, nn, nn, nn, nn, nn, nn, nn, nn, nn, nn, nn⟩ (fun _ _ h => ⟨h.1, h.2.1, h.2.2.1, h.2.2.2.1, h.2.2.2.2.1, h.2.2.2.2.2.1, h.2.2.2.2.2.2.1, h.2.2.2.2.2.2.2.1, h.2.2.2.2.2.2.2.2.1, h.2.2.2.2.2.2.2.2.2.1, h.2.2.2.2.2.2.2.2.2.2.1, h.2.2.2.2.2.2.2.2.2.2.2.1, h.2.2.2.2.2.2.2.2.2.2.2.2.1, h.2.2.2.2.2.2.2.2.2.2.2.2.2.1, fun e => TwoAt.stay hb (h.2.2.2.2.2.2.2.2.2.2.2.2.2.2.1 e), h.2.2.2.2.2.2.2.2.2.2.2.2.2.2.2.1, h.2.2.2.2.2.2.2.2.2.2.2.2.2.2.2.2.1, h.2.2.2.2.2.2.2.2.2.2.2.2.2.2.2.2.2.1, h.2.2.2.2.2.2.2.2.2.2.2.2.2.2.2.2.2.2.1, fun e => TmPtr.stay hb (h.2.2.2.2.2.2.2.2.2.2.2.2.2.2.2.2.2.2.2.1 e), h.2.2.2.2.2.2.2.2.2.2.2.2.2.2.2.2.2.2.2.2.1, fun e => RowSix.stay hb (h.2.2.2.2.2.2.2.2.2.2.2.2.2.2.2.2.2.2.2.2.2.1 e), fun e => (h.2.2.2.2.2.2.2.2.2.2.2.2.2.2.2.2.2.2.2.2.2.2 e).elim fun sl hs => ⟨sl, hs.1, RowSix.stay hb hs.2⟩⟩)
      case s9 =>
        intro a w' hoff hg hdep K hK
        obtain ⟨v8, e8, f8⟩ := hdep 8 _ 44 (by kernel_rfl) rfl rfl
        obtain rfl := (f8.2.2.2.2.2.2.2.2.1 rfl).symm
        rw [if_pos (by rfl)]
        go_simp
        refine (num_any (pickZ x.n2 4) w').mono ?_
        rintro e w2' ⟨rfl, hb⟩
        exact hK.out _ _ (Below.step hg hb) ⟨nn, nn, nn, nn, nn, nn, nn, nn, nn, fun _ => rfl, nn, nn, nn, nn, nn, nn, nn, nn, nn, nn, nn, nn, nn⟩ (fun _ _ h => ⟨h.1, h.2.1, h.2.2.1, h.2.2.2.1, h.2.2.2.2.1, h.2.2.2.2.2.1, h.2.2.2.2.2.2.1, h.2.2.2.2.2.2.2.1, h.2.2.2.2.2.2.2.2.1, h.2.2.2.2.2.2.2.2.2.1, h.2.2.2.2.2.2.2.2.2.2.1, h.2.2.2.2.2.2.2.2.2.2.2.1, h.2.2.2.2.2.2.2.2.2.2.2.2.1, h.2.2.2.2.2.2.2.2.2.2.2.2.2.1, fun e => TwoAt.stay hb (h.2.2.2.2.2.2.2.2.2.2.2.2.2.2.1 e), h.2.2.2.2.2.2.2.2.2.2.2.2.2.2.2.1, h.2.2.2.2.2.2.2.2.2.2.2.2.2.2.2.2.1, h.2.2.2.2.2.2.2.2.2.2.2.2.2.2.2.2.2.1, h.2.2.2.2.2.2.2.2.2.2.2.2.2.2.2.2.2.2.1, fun e => TmPtr.stay hb (h.2.2.2.2.2.2.2.2.2.2.2.2.2.2.2.2.2.2.2.1 e), h.2.2.2.2.2.2.2.2.2.2.2.2.2.2.2.2.2.2.2.2.1, fun e => RowSix.stay hb (h.2.2.2.2.2.2.2.2.2.2.2.2.2.2.2.2.2.2.2.2.2.1 e), fun e => (h.2.2.2.2.2.2.2.2.2.2.2.2.2.2.2.2.2.2.2.2.2.2 e).elim fun sl hs => ⟨sl, hs.1, RowSix.stay hb hs.2⟩⟩)
      case s10 =>
        intro a w' hoff hg hdep K hK
        have h1 := off_at hoff 1 (v := .pointer (some ⟨w.heap.size, 0, none⟩)) (by kernel_rfl) rfl
        rw [if_pos (by rfl)]
        go_simp
        exact hK.out _ _ hg ⟨nn, nn, nn, nn, nn, nn, nn, nn, nn, nn, fun _ => rfl, nn, nn, nn, nn, nn, nn, nn, nn, nn, nn, nn, nn⟩ (fun _ _ h => h)
      case s11 =>
        intro a w' hoff hg hdep K hK
        obtain ⟨v10, e10, f10⟩ := hdep 10 _ 46 (by kernel_rfl) rfl rfl
        obtain rfl := (f10.2.2.2.2.2.2.2.2.2.2.1 rfl).symm
        rw [if_pos (by rfl)]
        go_simp
        exact hK.out _ _ hg ⟨nn, nn, nn, nn, nn, nn, nn, nn, nn, nn, nn, fun _ => rfl, nn, nn, nn, nn, nn, nn, nn, nn, nn, nn, nn⟩ (fun _ _ h => h)
      case s12 =>
        intro a w' hoff hg hdep K hK
        obtain ⟨v11, e11, f11⟩ := hdep 11 _ 47 (by kernel_rfl) rfl rfl
        obtain rfl := (f11.2.2.2.2.2.2.2.2.2.2.2.1 rfl).symm
        rw [if_pos (by rfl)]
        obtain ⟨p0, p1, p2, p3, p4, p5⟩ := (X2.out.on hg).cells
        go_simp
        exact hK.out _ _ hg ⟨nn, nn, nn, nn, nn, nn, nn, nn, nn, nn, nn, nn, fun _ => rfl, nn, nn, nn, nn, nn, nn, nn, nn, nn, nn⟩ (fun _ _ h => h)
      case s13 =>
        intro a w' hoff hg hdep K hK
        obtain ⟨v12, e12, f12⟩ := hdep 12 _ 48 (by kernel_rfl) rfl rfl
        obtain rfl := (f12.2.2.2.2.2.2.2.2.2.2.2.2.1 rfl).symm
        rw [if_pos (by rfl)]
        go_simp
        refine (v_any (x.n1) w' HX.out.2.2.2.1).mono ?_
        rintro e w2' ⟨rfl, hb⟩
        exact hK.out _ _ (Below.step hg hb) ⟨nn, nn, nn, nn, nn, nn, nn, nn, nn, nn, nn, nn, nn, fun _ => rfl, nn, nn, nn, nn, nn, nn, nn, nn, nn⟩ (fun _ _ h => ⟨h.1, h.2.1, h.2.2.1, h.2.2.2.1, h.2.2.2.2.1, h.2.2.2.2.2.1, h.2.2.2.2.2.2.1, h.2.2.2.2.2.2.2.1, h.2.2.2.2.2.2.2.2.1, h.2.2.2.2.2.2.2.2.2.1, h.2.2.2.2.2.2.2.2.2.2.1, h.2.2.2.2.2.2.2.2.2.2.2.1, h.2.2.2.2.2.2.2.2.2.2.2.2.1, h.2.2.2.2.2.2.2.2.2.2.2.2.2.1, fun e => TwoAt.stay hb (h.2.2.2.2.2.2.2.2.2.2.2.2.2.2.1 e), h.2.2.2.2.2.2.2.2.2.2.2.2.2.2.2.1, h.2.2.2.2.2.2.2.2.2.2.2.2.2.2.2.2.1, h.2.2.2.2.2.2.2.2.2.2.2.2.2.2.2.2.2.1, h.2.2.2.2.2.2.2.2.2.2.2.2.2.2.2.2.2.2.1, fun e => TmPtr.stay hb (h.2.2.2.2.2.2.2.2.2.2.2.2.2.2.2.2.2.2.2.1 e), h.2.2.2.2.2.2.2.2.2.2.2.2.2.2.2.2.2.2.2.2.1, fun e => RowSix.stay hb (h.2.2.2.2.2.2.2.2.2.2.2.2.2.2.2.2.2.2.2.2.2.1 e), fun e => (h.2.2.2.2.2.2.2.2.2.2.2.2.2.2.2.2.2.2.2.2.2.2 e).elim fun sl hs => ⟨sl, hs.1, RowSix.stay hb hs.2⟩⟩)
      case s14 =>
        intro a w' hoff hg hdep K hK
        obtain ⟨v9, e9, f9⟩ := hdep 9 _ 45 (by kernel_rfl) rfl rfl
        obtain rfl := (f9.2.2.2.2.2.2.2.2.2.1 rfl).symm
        obtain ⟨v13, e13, f13⟩ := hdep 13 _ 49 (by kernel_rfl) rfl rfl
        obtain rfl := (f13.2.2.2.2.2.2.2.2.2.2.2.2.2.1 rfl).symm
        rw [if_pos (by rfl)]
        go_simp
        have hb := below_alloc w' (.cells #[.int .i64 2, .string ⟨#[]⟩, .int .i64 1, .int .i64 (pickZ x.n2 4), .string ⟨#[]⟩, .slice none 0 0, .slice none 0 0, .int .i64 1, .string (vName (pickZ (x.n1) 6).toNat), .int .i64 0, .int .i64 0, .string ⟨#[]⟩, .slice none 0 0, .slice none 0 0] 48)
        have hp : TwoAt #[.int .i64 2, .string ⟨#[]⟩, .int .i64 1, .int .i64 (pickZ x.n2 4), .string ⟨#[]⟩, .slice none 0 0, .slice none 0 0, .int .i64 1, .string (vName (pickZ (x.n1) 6).toNat), .int .i64 0, .int .i64 0, .string ⟨#[]⟩, .slice none 0 0, .slice none 0 0] (w'.alloc (.cells #[.int .i64 2, .string ⟨#[]⟩, .int .i64 1, .int .i64 (pickZ x.n2 4), .string ⟨#[]⟩, .slice none 0 0, .slice none 0 0, .int .i64 1, .string (vName (pickZ (x.n1) 6).toNat), .int .i64 0, .int .i64 0, .string ⟨#[]⟩, .slice none 0 0, .slice none 0 0] 48)) (.slice (some ⟨w'.heap.size, 0, none⟩) 2 2) := ⟨_, rfl, alloc_new' _ _⟩
        exact hK.out _ _ (Below.step hg hb) ⟨nn, nn, nn, nn, nn, nn, nn, nn, nn, nn, nn, nn, nn, nn, fun _ => hp, nn, nn, nn, nn, nn, nn, nn, nn⟩ (fun _ _ h => ⟨h.1, h.2.1, h.2.2.1, h.2.2.2.1, h.2.2.2.2.1, h.2.2.2.2.2.1, h.2.2.2.2.2.2.1, h.2.2.2.2.2.2.2.1, h.2.2.2.2.2.2.2.2.1, h.2.2.2.2.2.2.2.2.2.1, h.2.2.2.2.2.2.2.2.2.2.1, h.2.2.2.2.2.2.2.2.2.2.2.1, h.2.2.2.2.2.2.2.2.2.2.2.2.1, h.2.2.2.2.2.2.2.2.2.2.2.2.2.1, fun e => TwoAt.stay hb (h.2.2.2.2.2.2.2.2.2.2.2.2.2.2.1 e), h.2.2.2.2.2.2.2.2.2.2.2.2.2.2.2.1, h.2.2.2.2.2.2.2.2.2.2.2.2.2.2.2.2.1, h.2.2.2.2.2.2.2.2.2.2.2.2.2.2.2.2.2.1, h.2.2.2.2.2.2.2.2.2.2.2.2.2.2.2.2.2.2.1, fun e => TmPtr.stay hb (h.2.2.2.2.2.2.2.2.2.2.2.2.2.2.2.2.2.2.2.1 e), h.2.2.2.2.2.2.2.2.2.2.2.2.2.2.2.2.2.2.2.2.1, fun e => RowSix.stay hb (h.2.2.2.2.2.2.2.2.2.2.2.2.2.2.2.2.2.2.2.2.2.1 e), fun e => (h.2.2.2.2.2.2.2.2.2.2.2.2.2.2.2.2.2.2.2.2.2.2 e).elim fun sl hs => ⟨sl, hs.1, RowSix.stay hb hs.2⟩⟩)
      case s15 =>
        intro a w' hoff hg hdep K hK
        have h1 := off_at hoff 1 (v := .pointer (some ⟨w.heap.size, 0, none⟩)) (by kernel_rfl) rfl
        rw [if_pos (by rfl)]
        go_simp
        exact hK.out _ _ hg ⟨nn, nn, nn, nn, nn, nn, nn, nn, nn, nn, nn, nn, nn, nn, nn, fun _ => rfl, nn, nn, nn, nn, nn, nn, nn⟩ (fun _ _ h => h)
      case s16 =>
        intro a w' hoff hg hdep K hK
        obtain ⟨v15, e15, f15⟩ := hdep 15 _ 51 (by kernel_rfl) rfl rfl
        obtain rfl := (f15.2.2.2.2.2.2.2.2.2.2.2.2.2.2.2.1 rfl).symm
        rw [if_pos (by rfl)]
        go_simp
        exact hK.out _ _ hg ⟨nn, nn, nn, nn, nn, nn, nn, nn, nn, nn, nn, nn, nn, nn, nn, nn, fun _ => rfl, nn, nn, nn, nn, nn, nn⟩ (fun _ _ h => h)
      case s17 =>
        intro a w' hoff hg hdep K hK
        obtain ⟨v16, e16, f16⟩ := hdep 16 _ 52 (by kernel_rfl) rfl rfl
        obtain rfl := (f16.2.2.2.2.2.2.2.2.2.2.2.2.2.2.2.2.1 rfl).symm
        rw [if_pos (by rfl)]
        obtain ⟨p0, p1, p2, p3, p4, p5⟩ := (X2.out.on hg).cells
        go_simp
        exact hK.out _ _ hg ⟨nn, nn, nn, nn, nn, nn, nn, nn, nn, nn, nn, nn, nn, nn, nn, nn, nn, fun _ => rfl, nn, nn, nn, nn, nn⟩ (fun _ _ h => h)
      case s18 =>
        intro a w' hoff hg hdep K hK
        obtain ⟨v17, e17, f17⟩ := hdep 17 _ 53 (by kernel_rfl) rfl rfl
        obtain rfl := (f17.2.2.2.2.2.2.2.2.2.2.2.2.2.2.2.2.2.1 rfl).symm
        rw [if_pos (by rfl)]
        go_simp
        refine (pick6_any (x.n3) 2 w' HX.out.2.2.2.2.2 (by omega) (by omega)).mono ?_
        rintro e w2' ⟨rfl, rfl⟩
        rw [HM.out]
        have hb := Below.refl w'.heap.size w'
        exact hK.out _ _ (Below.step hg hb) ⟨nn, nn, nn, nn, nn, nn, nn, nn, nn, nn, nn, nn, nn, nn, nn, nn, nn, nn, fun _ => rfl, nn, nn, nn, nn⟩ (fun _ _ h => ⟨h.1, h.2.1, h.2.2.1, h.2.2.2.1, h.2.2.2.2.1, h.2.2.2.2.2.1, h.2.2.2.2.2.2.1, h.2.2.2.2.2.2.2.1, h.2.2.2.2.2.2.2.2.1, h.2.2.2.2.2.2.2.2.2.1, h.2.2.2.2.2.2.2.2.2.2.1, h.2.2.2.2.2.2.2.2.2.2.2.1, h.2.2.2.2.2.2.2.2.2.2.2.2.1, h.2.2.2.2.2.2.2.2.2.2.2.2.2.1, fun e => TwoAt.stay hb (h.2.2.2.2.2.2.2.2.2.2.2.2.2.2.1 e), h.2.2.2.2.2.2.2.2.2.2.2.2.2.2.2.1, h.2.2.2.2.2.2.2.2.2.2.2.2.2.2.2.2.1, h.2.2.2.2.2.2.2.2.2.2.2.2.2.2.2.2.2.1, h.2.2.2.2.2.2.2.2.2.2.2.2.2.2.2.2.2.2.1, fun e => TmPtr.stay hb (h.2.2.2.2.2.2.2.2.2.2.2.2.2.2.2.2.2.2.2.1 e), h.2.2.2.2.2.2.2.2.2.2.2.2.2.2.2.2.2.2.2.2.1, fun e => RowSix.stay hb (h.2.2.2.2.2.2.2.2.2.2.2.2.2.2.2.2.2.2.2.2.2.1 e), fun e => (h.2.2.2.2.2.2.2.2.2.2.2.2.2.2.2.2.2.2.2.2.2.2 e).elim fun sl hs => ⟨sl, hs.1, RowSix.stay hb hs.2⟩⟩)
      case s19 =>
        intro a w' hoff hg hdep K hK
        obtain ⟨v14, e14, f14⟩ := hdep 14 _ 50 (by kernel_rfl) rfl rfl
        have g14 := f14.2.2.2.2.2.2.2.2.2.2.2.2.2.2.1 rfl
        obtain ⟨v18, e18, f18⟩ := hdep 18 _ 54 (by kernel_rfl) rfl rfl
        obtain rfl := (f18.2.2.2.2.2.2.2.2.2.2.2.2.2.2.2.2.2.2.1 rfl).symm
        obtain ⟨b50, rfl, k50⟩ := g14
        have hp := two_ptr1 k50
        rw [if_pos (by rfl)]
        go_simp
        exact hK.out _ _ hg ⟨nn, nn, nn, nn, nn, nn, nn, nn, nn, nn, nn, nn, nn, nn, nn, nn, nn, nn, nn, fun _ => hp, nn, nn, nn⟩ (fun _ _ h => h)
      case s20 =>
        intro a w' hoff hg hdep K hK
        obtain ⟨v19, e19, f19⟩ := hdep 19 _ 55 (by kernel_rfl) rfl rfl
        have g19 := f19.2.2.2.2.2.2.2.2.2.2.2.2.2.2.2.2.2.2.2.1 rfl
        obtain ⟨b55, rfl, l55, t0, t1, t2, t3, t4, t5, t6⟩ := g19
        rw [if_pos (by rfl)]
        obtain ⟨p0, p1, p2, p3, p4, p5⟩ := (X2.out.on hg).cells
        go_simp
        exact hK.out _ _ hg ⟨nn, nn, nn, nn, nn, nn, nn, nn, nn, nn, nn, nn, nn, nn, nn, nn, nn, nn, nn, nn, fun _ => rfl, nn, nn⟩ (fun _ _ h => h)
      case s21 =>
        intro a w' hoff hg hdep K hK
        obtain ⟨v4, e4, f4⟩ := hdep 4 _ 40 (by kernel_rfl) rfl rfl
        obtain rfl := (f4.2.2.2.2.1 rfl).symm
        obtain ⟨v20, e20, f20⟩ := hdep 20 _ 56 (by kernel_rfl) rfl rfl
        obtain rfl := (f20.2.2.2.2.2.2.2.2.2.2.2.2.2.2.2.2.2.2.2.2.1 rfl).symm
        rw [if_pos (by rfl)]
        go_simp
        have hb := below_alloc w' (.cells #[.int .i64 1, .string (vName (pickZ (x.n0) 6).toNat), .int .i64 0, .int .i64 0, .string ⟨#[]⟩, .slice none 0 0, .slice none 0 0, .int .i64 1, .string (vName (pickZ (x.n1) 6).toNat), .int .i64 0, .int .i64 0, .string ⟨#[]⟩, .slice none 0 0, .slice none 0 0] 48)
        have hp := row_two (B := (w.heap.size + 2)) (w := w') (y := vTm (pickZ x.n0 6).toNat) (z := vTm (pickZ x.n1 6).toNat) (Nat.le_trans HSZ.out hg.size) (vTm_rep _ _ _) (vTm_rep _ _ _)
        exact hK.out _ _ (Below.step hg hb) ⟨nn, nn, nn, nn, nn, nn, nn, nn, nn, nn, nn, nn, nn, nn, nn, nn, nn, nn, nn, nn, nn, fun _ => hp, nn⟩ (fun _ _ h => ⟨h.1, h.2.1, h.2.2.1, h.2.2.2.1, h.2.2.2.2.1, h.2.2.2.2.2.1, h.2.2.2.2.2.2.1, h.2.2.2.2.2.2.2.1, h.2.2.2.2.2.2.2.2.1, h.2.2.2.2.2.2.2.2.2.1, h.2.2.2.2.2.2.2.2.2.2.1, h.2.2.2.2.2.2.2.2.2.2.2.1, h.2.2.2.2.2.2.2.2.2.2.2.2.1, h.2.2.2.2.2.2.2.2.2.2.2.2.2.1, fun e => TwoAt.stay hb (h.2.2.2.2.2.2.2.2.2.2.2.2.2.2.1 e), h.2.2.2.2.2.2.2.2.2.2.2.2.2.2.2.1, h.2.2.2.2.2.2.2.2.2.2.2.2.2.2.2.2.1, h.2.2.2.2.2.2.2.2.2.2.2.2.2.2.2.2.2.1, h.2.2.2.2.2.2.2.2.2.2.2.2.2.2.2.2.2.2.1, fun e => TmPtr.stay hb (h.2.2.2.2.2.2.2.2.2.2.2.2.2.2.2.2.2.2.2.1 e), h.2.2.2.2.2.2.2.2.2.2.2.2.2.2.2.2.2.2.2.2.1, fun e => RowSix.stay hb (h.2.2.2.2.2.2.2.2.2.2.2.2.2.2.2.2.2.2.2.2.2.1 e), fun e => (h.2.2.2.2.2.2.2.2.2.2.2.2.2.2.2.2.2.2.2.2.2.2 e).elim fun sl hs => ⟨sl, hs.1, RowSix.stay hb hs.2⟩⟩)
      case s22 =>
        intro a w' hoff hg hdep K hK
        obtain ⟨v0, e0, f0⟩ := hdep 0 _ 36 (by kernel_rfl) rfl rfl
        obtain rfl := (f0.1 rfl).symm
        obtain ⟨v21, e21, f21⟩ := hdep 21 _ 57 (by kernel_rfl) rfl rfl
        have g21 := f21.2.2.2.2.2.2.2.2.2.2.2.2.2.2.2.2.2.2.2.2.2.1 rfl
        obtain ⟨ra, rn, rc, rfl, k57⟩ := g21
        have hp : ∃ sl, (.agg #[.int .i64 3, .string (cmp6 j), .slice ra rn rc] : Value) = .agg #[.int .i64 3, .string (cmp6 j), sl] ∧ RowSix (w.heap.size + 2) [vTm (pickZ x.n0 6).toNat, vTm (pickZ x.n1 6).toNat] w' sl := ⟨_, rfl, _, _, _, rfl, k57⟩
        rw [if_pos (by rfl)]
        go_simp
        exact hK.out _ _ hg ⟨nn, nn, nn, nn, nn, nn, nn, nn, nn, nn, nn, nn, nn, nn, nn, nn, nn, nn, nn, nn, nn, nn, fun _ => hp⟩ (fun _ _ h => h)
      case last =>
        intro a w' hoff hg hf
        obtain ⟨v0, e0, f0⟩ := hf 0 _ 36 (by decide) rfl rfl
        obtain rfl := (f0.1 rfl).symm
        obtain ⟨v1, e1, f1⟩ := hf 1 _ 37 (by decide) rfl rfl
        obtain rfl := (f1.2.1 rfl).symm
        obtain ⟨v2, e2, f2⟩ := hf 2 _ 38 (by decide) rfl rfl
        obtain rfl := (f2.2.2.1 rfl).symm
        obtain ⟨v3, e3, f3⟩ := hf 3 _ 39 (by decide) rfl rfl
        obtain rfl := (f3.2.2.2.1 rfl).symm
        obtain ⟨v4, e4, f4⟩ := hf 4 _ 40 (by decide) rfl rfl
        obtain rfl := (f4.2.2.2.2.1 rfl).symm
        obtain ⟨v5, e5, f5⟩ := hf 5 _ 41 (by decide) rfl rfl
        obtain rfl := (f5.2.2.2.2.2.1 rfl).symm
        obtain ⟨v6, e6, f6⟩ := hf 6 _ 42 (by decide) rfl rfl
        obtain rfl := (f6.2.2.2.2.2.2.1 rfl).symm
        obtain ⟨v7, e7, f7⟩ := hf 7 _ 43 (by decide) rfl rfl
        obtain rfl := (f7.2.2.2.2.2.2.2.1 rfl).symm
        obtain ⟨v8, e8, f8⟩ := hf 8 _ 44 (by decide) rfl rfl
        obtain rfl := (f8.2.2.2.2.2.2.2.2.1 rfl).symm
        obtain ⟨v9, e9, f9⟩ := hf 9 _ 45 (by decide) rfl rfl
        obtain rfl := (f9.2.2.2.2.2.2.2.2.2.1 rfl).symm
        obtain ⟨v10, e10, f10⟩ := hf 10 _ 46 (by decide) rfl rfl
        obtain rfl := (f10.2.2.2.2.2.2.2.2.2.2.1 rfl).symm
        obtain ⟨v11, e11, f11⟩ := hf 11 _ 47 (by decide) rfl rfl
        obtain rfl := (f11.2.2.2.2.2.2.2.2.2.2.2.1 rfl).symm
        obtain ⟨v12, e12, f12⟩ := hf 12 _ 48 (by decide) rfl rfl
        obtain rfl := (f12.2.2.2.2.2.2.2.2.2.2.2.2.1 rfl).symm
        obtain ⟨v13, e13, f13⟩ := hf 13 _ 49 (by decide) rfl rfl
        obtain rfl := (f13.2.2.2.2.2.2.2.2.2.2.2.2.2.1 rfl).symm
        obtain ⟨v14, e14, f14⟩ := hf 14 _ 50 (by decide) rfl rfl
        have g14 := f14.2.2.2.2.2.2.2.2.2.2.2.2.2.2.1 rfl
        obtain ⟨v15, e15, f15⟩ := hf 15 _ 51 (by decide) rfl rfl
        obtain rfl := (f15.2.2.2.2.2.2.2.2.2.2.2.2.2.2.2.1 rfl).symm
        obtain ⟨v16, e16, f16⟩ := hf 16 _ 52 (by decide) rfl rfl
        obtain rfl := (f16.2.2.2.2.2.2.2.2.2.2.2.2.2.2.2.2.1 rfl).symm
        obtain ⟨v17, e17, f17⟩ := hf 17 _ 53 (by decide) rfl rfl
        obtain rfl := (f17.2.2.2.2.2.2.2.2.2.2.2.2.2.2.2.2.2.1 rfl).symm
        obtain ⟨v18, e18, f18⟩ := hf 18 _ 54 (by decide) rfl rfl
        obtain rfl := (f18.2.2.2.2.2.2.2.2.2.2.2.2.2.2.2.2.2.2.1 rfl).symm
        obtain ⟨v19, e19, f19⟩ := hf 19 _ 55 (by decide) rfl rfl
        have g19 := f19.2.2.2.2.2.2.2.2.2.2.2.2.2.2.2.2.2.2.2.1 rfl
        obtain ⟨v20, e20, f20⟩ := hf 20 _ 56 (by decide) rfl rfl
        obtain rfl := (f20.2.2.2.2.2.2.2.2.2.2.2.2.2.2.2.2.2.2.2.2.1 rfl).symm
        obtain ⟨v21, e21, f21⟩ := hf 21 _ 57 (by decide) rfl rfl
        have g21 := f21.2.2.2.2.2.2.2.2.2.2.2.2.2.2.2.2.2.2.2.2.2.1 rfl
        obtain ⟨v22, e22, f22⟩ := hf 22 _ 58 (by decide) rfl rfl
        have g22 := f22.2.2.2.2.2.2.2.2.2.2.2.2.2.2.2.2.2.2.2.2.2.2 rfl
        obtain ⟨sl, rfl, ra, rn, rc, rfl, k9⟩ := g22
        have R3 := Lib.hid (R2.out.on hg); have B3 := Lib.hid (Below.step B2.out hg)
        have z0 := frozen_of_row w' (w.heap.size + 1) 0 _ _ R3.out; have z1 := frozen_of_row w' (w.heap.size + 1) 1 _ _ R3.out; have z2 := frozen_of_row w' (w.heap.size + 1) 2 _ _ R3.out
        obtain ⟨r0, r1, r2⟩ := R3.out.cells
        rw [if_pos (by rfl)]
        rw [hoff.sets [(36, .string (cmp6 j)), (37, .pointer (some ⟨w.heap.size, 2, none⟩)), (38, .pointer (some ⟨w.heap.size, 2, none⟩)), (39, .int .i64 x.n0), (40, .agg #[.int .i64 1, .string (vName (pickZ (x.n0) 6).toNat), .int .i64 0, .int .i64 0, .string ⟨#[]⟩, .slice none 0 0, .slice none 0 0]), (41, .pointer (some ⟨w.heap.size, 2, none⟩)), (42, .pointer (some ⟨w.heap.size, 4, none⟩)), (43, .int .i64 x.n2), (44, .int .i64 (pickZ x.n2 4)), (45, .agg #[.int .i64 2, .string ⟨#[]⟩, .int .i64 1, .int .i64 (pickZ x.n2 4), .string ⟨#[]⟩, .slice none 0 0, .slice none 0 0]), (46, .pointer (some ⟨w.heap.size, 2, none⟩)), (47, .pointer (some ⟨w.heap.size, 3, none⟩)), (48, .int .i64 x.n1), (49, .agg #[.int .i64 1, .string (vName (pickZ (x.n1) 6).toNat), .int .i64 0, .int .i64 0, .string ⟨#[]⟩, .slice none 0 0, .slice none 0 0]), (50, v14), (51, .pointer (some ⟨w.heap.size, 2, none⟩)), (52, .pointer (some ⟨w.heap.size, 5, none⟩)), (53, .int .i64 x.n3), (54, .int .i64 1), (55, v19), (56, .agg #[.int .i64 1, .string (vName (pickZ (x.n1) 6).toNat), .int .i64 0, .int .i64 0, .string ⟨#[]⟩, .slice none 0 0, .slice none 0 0]), (57, v21), (58, .agg #[.int .i64 3, .string (cmp6 j), .slice ra rn rc])] (by kernel_rfl) (by intro p hp; simp only [List.mem_cons, List.not_mem_nil, or_false] at hp; rcases hp with rfl | rfl | rfl | rfl | rfl | rfl | rfl | rfl | rfl | rfl | rfl | rfl | rfl | rfl | rfl | rfl | rfl | rfl | rfl | rfl | rfl | rfl | rfl <;> assumption)]
        clear hoff hf e0 f0 e1 f1 e2 f2 e3 f3 e4 f4 e5 f5 e6 f6 e7 f7 e8 f8 e9 f9 e10 f10 e11 f11 e12 f12 e13 f13 e14 f14 e15 f15 e16 f16 e17 f17 e18 f18 e19 f19 e20 f20 e21 f21 e22 f22
        simp only [List.foldl_cons, List.foldl_nil, List.setIfInBounds_toArray, List.set_cons_zero, List.set_cons_succ]
        have HRL : Hid (RepLi (fun k => (w.heap.size + 2) ≤ k ∧ k < w'.heap.size) w' ⟨3, cmp6 j, [vTm (pickZ x.n0 6).toNat, vTm (pickZ x.n1 6).toNat]⟩ (.int .i64 3) (.string (cmp6 j)) (.slice ra rn rc)) := ⟨rfl, rfl, small64 (show (0 : Int) ≤ 3 ∧ (3 : Int) ≤ 100 by decide), cmp6_size j, k9⟩
        clear k9
        go_simp
        clear r0 r1 r2 z0 z1 z2
        have R4 := boxLi_set R3.out (.int .i64 3) (.string (cmp6 j)) (.slice ra rn rc)
        have B4 : Below w.heap.size w (((w'.setCell ⟨w.heap.size + 1, 0, none⟩ (.int .i64 3)).setCell ⟨w.heap.size + 1, 1, none⟩ (.string (cmp6 j))).setCell ⟨w.heap.size + 1, 2, none⟩ (.slice ra rn rc)) := ((B3.out.setCell (p := ⟨w.heap.size + 1, 0, none⟩) (by simp) _).setCell (p := ⟨w.heap.size + 1, 1, none⟩) (by simp) _).setCell (p := ⟨w.heap.size + 1, 2, none⟩) (by simp) _
        have HRM : RepLi (fun k => w.heap.size ≤ k ∧ k < (((w'.setCell ⟨w.heap.size + 1, 0, none⟩ (.int .i64 3)).setCell ⟨w.heap.size + 1, 1, none⟩ (.string (cmp6 j))).setCell ⟨w.heap.size + 1, 2, none⟩ (.slice ra rn rc)).heap.size) (((w'.setCell ⟨w.heap.size + 1, 0, none⟩ (.int .i64 3)).setCell ⟨w.heap.size + 1, 1, none⟩ (.string (cmp6 j))).setCell ⟨w.heap.size + 1, 2, none⟩ (.slice ra rn rc)) ⟨3, cmp6 j, [vTm (pickZ x.n0 6).toNat, vTm (pickZ x.n1 6).toNat]⟩ (.int .i64 3) (.string (cmp6 j)) (.slice ra rn rc) := RepLi.on (fun k hk => ⟨by omega, by simp [World.setCell]; exact hk.2⟩) (fun k hk => by rw [Below.heap_setCell _ _ _ _ (show k ≠ w.heap.size + 1 by omega), Below.heap_setCell _ _ _ _ (show k ≠ w.heap.size + 1 by omega), Below.heap_setCell _ _ _ _ (show k ≠ w.heap.size + 1 by omega)]) HRL.out
        have HB4 := Lib.hid B4; have HR4 := Lib.hid HRM
        clear B4 HRM HRL hg
        generalize (((w'.setCell ⟨w.heap.size + 1, 0, none⟩ (.int .i64 3)).setCell ⟨w.heap.size + 1, 1, none⟩ (.string (cmp6 j))).setCell ⟨w.heap.size + 1, 2, none⟩ (.slice ra rn rc)) = w9 at *
        obtain ⟨r0, r1, r2⟩ := R4.cells
        go_wp2_with fail
        rw [HLZ.out]
        exact bodyPost_ret (v := .agg #[.int .i64 3, .string (cmp6 j), .slice ra rn rc]) (by simp [results, Try.results36, go_sem, r0, r1, r2]) rfl ⟨_, rfl, HR4.out, HB4.out⟩

end Go.Proofs.Ytkaiihoijcpldaa
