/-
  Layer 6's own 'Literal': a setting.
-/
import Derived.Test.YtkaiihoijcpldaaW04
namespace Go.Proofs.Ytkaiihoijcpldaa
open Go.RowKit

set_option maxRecDepth 100000 in
set_option maxHeartbeats 20000000 in
theorem literal_set00 (x : Rw) (w : World) (hx : RwOk x) (h7 : pickZ x.kind 8 = 7) (h3 : pickZ x.n3 2 = 0) (h4 : pickZ (x.n3.tdiv 2) 2 = 0) : Calls Try.prog 36 #[rwV x] w (MadeLi (litZ x) w) := by
  have HX := Lib.hid hx
  rw [rwV]
  go_enter Try.func36, Try.ntmps36
  go_wp2_with fail
  have x1 := boxRw_new w x; have b1 := below_alloc w (.cells #[.int .i64 x.kind, .int .i64 x.name, .int .i64 x.n0, .int .i64 x.n1, .int .i64 x.n2, .int .i64 x.n3] 60)
  have s1 := World.size_alloc w (.cells #[.int .i64 x.kind, .int .i64 x.name, .int .i64 x.n0, .int .i64 x.n1, .int .i64 x.n2, .int .i64 x.n3] 60)
  generalize w.alloc (.cells #[.int .i64 x.kind, .int .i64 x.name, .int .i64 x.n0, .int .i64 x.n1, .int .i64 x.n2, .int .i64 x.n3] 60) = wa at *
  have r2 := boxLi_new wa (.int .i64 0) (.string ⟨#[]⟩) (.slice none 0 0); have b2 := below_alloc wa (.cells #[.int .i64 0, .string ⟨#[]⟩, .slice none 0 0] 42)
  have s2 := World.size_alloc wa (.cells #[.int .i64 0, .string ⟨#[]⟩, .slice none 0 0] 42)
  generalize wa.alloc (.cells #[.int .i64 0, .string ⟨#[]⟩, .slice none 0 0] 42) = wb at *
  rw [s1] at r2
  have X0 := Lib.hid (x1.on b2); have R0 := Lib.hid r2; have B0 := Lib.hid (Below.step b1 b2)
  have HSB : Hid (w.heap.size + 2 ≤ wb.heap.size) := by show _ ≤ _; omega
  clear x1 b1 s1 r2 b2 s2
  obtain ⟨p0, p1, p2, p3, p4, p5⟩ := X0.out.cells
  go_wp2_with fail
  refine (atom_any x wb HX.out).mono ?_
  rintro e w1 ⟨lv, rfl, hm, hb⟩
  have X1 := Lib.hid (X0.out.on hb); have R1 := Lib.hid (R0.out.on hb); have B1 := Lib.hid (Below.step B0.out hb)
  have HS1 : Hid (w.heap.size + 2 ≤ w1.heap.size) := Nat.le_trans HSB.out hb.size
  have HM1 := Lib.hid hm
  obtain ⟨la, lc, rfl⟩ := OwnK.form hm
  clear hm hb p0 p1 p2 p3 p4 p5 X0 R0 B0
  obtain ⟨p0, p1, p2, p3, p4, p5⟩ := X1.out.cells
  go_wp2_with fail
  refine (pick6_any x.kind 8 _ HX.out.1 (by omega) (by omega)).mono ?_
  rintro e w' ⟨rfl, rfl⟩
  have HLZ : Hid (litZ x = ⟨4, vName (pickZ x.n0 6).toNat, [sumZ (vZ x.n1) (numZ 1) ⟨#[43]⟩]⟩) := by
    show _ = _
    rw [litZ, if_neg (by omega), if_neg (by omega), if_neg (by omega), if_pos h4, if_pos h3]
  have HM3 := Lib.hid h3; have HM4 := Lib.hid h4
  rw [h7]
  clear h3 h4 h7 hx p0 p1 p2 p3 p4 p5
  obtain ⟨p0, p1, p2, p3, p4, p5⟩ := X1.out.cells
  go_wp2_with fail
  clear p0 p1 p2 p3 p4 p5
  refine wp_region_factsL (by rfl) 92 (by rfl) (by kernel_rfl) (fun wz iz vz => (iz = 0 → vz = .pointer (some ⟨w.heap.size, 2, none⟩)) ∧ (iz = 1 → vz = .pointer (some ⟨w.heap.size, 2, none⟩)) ∧ (iz = 2 → vz = .int .i64 x.n0) ∧ (iz = 3 → vz = .agg #[.int .i64 1, .string (vName (pickZ (x.n0) 6).toNat), .int .i64 0, .int .i64 0, .string ⟨#[]⟩, .slice none 0 0, .slice none 0 0]) ∧ (iz = 4 → vz = .string (vName (pickZ x.n0 6).toNat)) ∧ (iz = 5 → StrTwo wz vz) ∧ (iz = 6 → vz = .pointer (some ⟨w.heap.size, 2, none⟩)) ∧ (iz = 7 → vz = .pointer (some ⟨w.heap.size, 5, none⟩)) ∧ (iz = 8 → vz = .int .i64 x.n3) ∧ (iz = 9 → vz = .int .i64 0) ∧ (iz = 10 → StrPtr 0 ⟨#[43]⟩ wz vz) ∧ (iz = 11 → vz = .string ⟨#[43]⟩) ∧ (iz = 12 → vz = .pointer (some ⟨w.heap.size, 2, none⟩)) ∧ (iz = 13 → vz = .pointer (some ⟨w.heap.size, 3, none⟩)) ∧ (iz = 14 → vz = .int .i64 x.n1) ∧ (iz = 15 → vz = .agg #[.int .i64 1, .string (vName (pickZ (x.n1) 6).toNat), .int .i64 0, .int .i64 0, .string ⟨#[]⟩, .slice none 0 0, .slice none 0 0]) ∧ (iz = 16 → vz = .agg #[.int .i64 2, .string ⟨#[]⟩, .int .i64 1, .int .i64 1, .string ⟨#[]⟩, .slice none 0 0, .slice none 0 0]) ∧ (iz = 17 → vz = .pointer (some ⟨w.heap.size, 2, none⟩)) ∧ (iz = 18 → vz = .pointer (some ⟨w.heap.size, 4, none⟩)) ∧ (iz = 19 → vz = .int .i64 x.n2) ∧ (iz = 20 → vz = .agg #[.int .i64 1, .string (vName (pickZ (x.n2) 6).toNat), .int .i64 0, .int .i64 0, .string ⟨#[]⟩, .slice none 0 0, .slice none 0 0]) ∧ (iz = 21 → TwoAt #[.int .i64 2, .string ⟨#[]⟩, .int .i64 1, .int .i64 1, .string ⟨#[]⟩, .slice none 0 0, .slice none 0 0, .int .i64 1, .string (vName (pickZ (x.n2) 6).toNat), .int .i64 0, .int .i64 0, .string ⟨#[]⟩, .slice none 0 0, .slice none 0 0] wz vz) ∧ (iz = 22 → vz = .pointer (some ⟨w.heap.size, 2, none⟩)) ∧ (iz = 23 → vz = .pointer (some ⟨w.heap.size, 5, none⟩)) ∧ (iz = 24 → vz = .int .i64 x.n3) ∧ (iz = 25 → vz = .int .i64 (x.n3.tdiv 2)) ∧ (iz = 26 → vz = .int .i64 0) ∧ (iz = 27 → TmPtr 0 (.int .i64 2) (.string ⟨#[]⟩) (.int .i64 1) (.int .i64 1) (.string ⟨#[]⟩) (.slice none 0 0) (.slice none 0 0) wz vz) ∧ (iz = 28 → vz = .agg #[.int .i64 2, .string ⟨#[]⟩, .int .i64 1, .int .i64 1, .string ⟨#[]⟩, .slice none 0 0, .slice none 0 0]) ∧ (iz = 29 → RowSix (w.heap.size + 2) [vTm (pickZ x.n1 6).toNat, numZ 1] wz vz) ∧ (iz = 30 → MadeSix (w.heap.size + 2) (sumZ (vTm (pickZ x.n1 6).toNat) (numZ 1) ⟨#[43]⟩) ⟨#[43]⟩ wz vz) ∧ (iz = 31 → RowSix (w.heap.size + 2) [sumZ (vTm (pickZ x.n1 6).toNat) (numZ 1) ⟨#[43]⟩] wz vz) ∧ (iz = 32 → (∃ sl, vz = .agg #[.int .i64 4, .string (vName (pickZ x.n0 6).toNat), sl] ∧ RowSix (w.heap.size + 2) [sumZ (vTm (pickZ x.n1 6).toNat) (numZ 1) ⟨#[43]⟩] wz sl))) (fun w' => Below w1.heap.size w1 w') (Below.drew (Below.refl _ _)) ⟨?s0, ?s1, ?s2, ?s3, ?s4, ?s5, ?s6, ?s7, ?s8, ?s9, ?s10, ?s11, ?s12, ?s13, ?s14, ?s15, ?s16, ?s17, ?s18, ?s19, ?s20, ?s21, ?s22, ?s23, ?s24, ?s25, ?s26, ?s27, ?s28, ?s29, ?s30, ?s31, ?s32, trivial⟩ (by rfl) ?last (by decide)
  case s0 =>
    intro a w' hoff hg hdep K hK
    have h1 := off_at hoff 1 (v := .pointer (some ⟨w.heap.size, 0, none⟩)) (by kernel_rfl) rfl
    rw [if_pos (by rfl)]
    go_simp
    exact hK.out _ _ hg ⟨fun _ => rfl, nn, nn, nn, nn, nn, nn, nn, nn, nn, nn, nn, nn, nn, nn, nn, nn, nn, nn, nn, nn, nn, nn, nn, nn, nn, nn, nn, nn, nn, nn, nn, nn⟩ (fun _ _ h => h)
  case s1 =>
    intro a w' hoff hg hdep K hK
    obtain ⟨v0, e0, f0⟩ := hdep 0 _ 59 (by kernel_rfl) rfl rfl
    obtain rfl := (f0.1 rfl).symm
    rw [if_pos (by rfl)]
    go_simp
    exact hK.out _ _ hg ⟨nn, fun _ => rfl, nn, nn, nn, nn, nn, nn, nn, nn, nn, nn, nn, nn, nn, nn, nn, nn, nn, nn, nn, nn, nn, nn, nn, nn, nn, nn, nn, nn, nn, nn, nn⟩ (fun _ _ h => h)
  case s2 =>
    intro a w' hoff hg hdep K hK
    obtain ⟨v1, e1, f1⟩ := hdep 1 _ 60 (by kernel_rfl) rfl rfl
    obtain rfl := (f1.2.1 rfl).symm
    rw [if_pos (by rfl)]
    obtain ⟨p0, p1, p2, p3, p4, p5⟩ := (X1.out.on hg).cells
    go_simp
    exact hK.out _ _ hg ⟨nn, nn, fun _ => rfl, nn, nn, nn, nn, nn, nn, nn, nn, nn, nn, nn, nn, nn, nn, nn, nn, nn, nn, nn, nn, nn, nn, nn, nn, nn, nn, nn, nn, nn, nn⟩ (fun _ _ h => h)
  case s3 =>
    intro a w' hoff hg hdep K hK
    obtain ⟨v2, e2, f2⟩ := hdep 2 _ 61 (by kernel_rfl) rfl rfl
    obtain rfl := (f2.2.2.1 rfl).symm
    rw [if_pos (by rfl)]
    go_simp
    refine (v_any (x.n0) w' HX.out.2.2.1).mono ?_
    rintro e w2' ⟨rfl, hb⟩
    exact hK.out _ _ (Below.step hg hb) ⟨nn, nn, nn, fun _ => rfl, nn, nn, nn, nn, nn, nn, nn, nn, nn, nn, nn, nn, nn, nn, nn, nn, nn, nn, nn, nn, nn, nn, nn, nn, nn, nn, nn, nn, nn⟩ (fun _ _ h => ⟨h.1, h.2.1, h.2.2.1, h.2.2.2.1, h.2.2.2.2.1, fun e => StrTwo.stay hb (h.2.2.2.2.2.1 e), h.2.2.2.2.2.2.1, h.2.2.2.2.2.2.2.1, h.2.2.2.2.2.2.2.2.1, h.2.2.2.2.2.2.2.2.2.1, fun e => StrPtr.stay hb (h.2.2.2.2.2.2.2.2.2.2.1 e), h.2.2.2.2.2.2.2.2.2.2.2.1, h.2.2.2.2.2.2.2.2.2.2.2.2.1, h.2.2.2.2.2.2.2.2.2.2.2.2.2.1, h.2.2.2.2.2.2.2.2.2.2.2.2.2.2.1, h.2.2.2.2.2.2.2.2.2.2.2.2.2.2.2.1, h.2.2.2.2.2.2.2.2.2.2.2.2.2.2.2.2.1, h.2.2.2.2.2.2.2.2.2.2.2.2.2.2.2.2.2.1, h.2.2.2.2.2.2.2.2.2.2.2.2.2.2.2.2.2.2.1, h.2.2.2.2.2.2.2.2.2.2.2.2.2.2.2.2.2.2.2.1, h.2.2.2.2.2.2.2.2.2.2.2.2.2.2.2.2.2.2.2.2.1, fun e => TwoAt.stay hb (h.2.2.2.2.2.2.2.2.2.2.2.2.2.2.2.2.2.2.2.2.2.1 e), h.2.2.2.2.2.2.2.2.2.2.2.2.2.2.2.2.2.2.2.2.2.2.1, h.2.2.2.2.2.2.2.2.2.2.2.2.2.2.2.2.2.2.2.2.2.2.2.1, h.2.2.2.2.2.2.2.2.2.2.2.2.2.2.2.2.2.2.2.2.2.2.2.2.1, h.2.2.2.2.2.2.2.2.2.2.2.2.2.2.2.2.2.2.2.2.2.2.2.2.2.1, h.2.2.2.2.2.2.2.2.2.2.2.2.2.2.2.2.2.2.2.2.2.2.2.2.2.2.1, fun e => TmPtr.stay hb (h.2.2.2.2.2.2.2.2.2.2.2.2.2.2.2.2.2.2.2.2.2.2.2.2.2.2.2.1 e), h.2.2.2.2.2.2.2.2.2.2.2.2.2.2.2.2.2.2.2.2.2.2.2.2.2.2.2.2.1, fun e => RowSix.stay hb (h.2.2.2.2.2.2.2.2.2.2.2.2.2.2.2.2.2.2.2.2.2.2.2.2.2.2.2.2.2.1 e), fun e => MadeSix.stay hb (h.2.2.2.2.2.2.2.2.2.2.2.2.2.2.2.2.2.2.2.2.2.2.2.2.2.2.2.2.2.2.1 e), fun e => RowSix.stay hb (h.2.2.2.2.2.2.2.2.2.2.2.2.2.2.2.2.2.2.2.2.2.2.2.2.2.2.2.2.2.2.2.1 e), fun e => (h.2.2.2.2.2.2.2.2.2.2.2.2.2.2.2.2.2.2.2.2.2.2.2.2.2.2.2.2.2.2.2.2 e).elim fun sl hs => ⟨sl, hs.1, RowSix.stay hb hs.2⟩⟩)
  case s4 =>
    intro a w' hoff hg hdep K hK
    obtain ⟨v3, e3, f3⟩ := hdep 3 _ 62 (by kernel_rfl) rfl rfl
    obtain rfl := (f3.2.2.2.1 rfl).symm
    rw [if_pos (by rfl)]
    have hf : Sem.run Try.prog (Instr.field 48 (.agg #[.int .i64 1, .string (vName (pickZ (x.n0) 6).toNat), .int .i64 0, .int .i64 0, .string ⟨#[]⟩, .slice none 0 0, .slice none 0 0]) 1) w' = .ok (.string (vName (pickZ x.n0 6).toNat)) w' := by kernel_rfl
    go_simp
    exact hK.out _ _ hg ⟨nn, nn, nn, nn, fun _ => rfl, nn, nn, nn, nn, nn, nn, nn, nn, nn, nn, nn, nn, nn, nn, nn, nn, nn, nn, nn, nn, nn, nn, nn, nn, nn, nn, nn, nn⟩ (fun _ _ h => h)
  case s5 =>
    intro a w' hoff hg hdep K hK
    rw [if_pos (by rfl)]
    go_simp
    have hb := below_alloc w' (.cells #[.string ⟨#[43]⟩, .string ⟨#[45]⟩] 9)
    have hp : StrTwo (w'.alloc (.cells #[.string ⟨#[43]⟩, .string ⟨#[45]⟩] 9)) (.slice (some ⟨w'.heap.size, 0, none⟩) 2 2) := ⟨_, rfl, alloc_new' _ _⟩
    exact hK.out _ _ (Below.step hg hb) ⟨nn, nn, nn, nn, nn, fun _ => hp, nn, nn, nn, nn, nn, nn, nn, nn, nn, nn, nn, nn, nn, nn, nn, nn, nn, nn, nn, nn, nn, nn, nn, nn, nn, nn, nn⟩ (fun _ _ h => ⟨h.1, h.2.1, h.2.2.1, h.2.2.2.1, h.2.2.2.2.1, fun e => StrTwo.stay hb (h.2.2.2.2.2.1 e), h.2.2.2.2.2.2.1, h.2.2.2.2.2.2.2.1, h.2.2.2.2.2.2.2.2.1, h.2.2.2.2.2.2.2.2.2.1, fun e => StrPtr.stay hb (h.2.2.2.2.2.2.2.2.2.2.1 e), h.2.2.2.2.2.2.2.2.2.2.2.1, h.2.2.2.2.2.2.2.2.2.2.2.2.1, h.2.2.2.2.2.2.2.2.2.2.2.2.2.1, h.2.2.2.2.2.2.2.2.2.2.2.2.2.2.1, h.2.2.2.2.2.2.2.2.2.2.2.2.2.2.2.1, h.2.2.2.2.2.2.2.2.2.2.2.2.2.2.2.2.1, h.2.2.2.2.2.2.2.2.2.2.2.2.2.2.2.2.2.1, h.2.2.2.2.2.2.2.2.2.2.2.2.2.2.2.2.2.2.1, h.2.2.2.2.2.2.2.2.2.2.2.2.2.2.2.2.2.2.2.1, h.2.2.2.2.2.2.2.2.2.2.2.2.2.2.2.2.2.2.2.2.1, fun e => TwoAt.stay hb (h.2.2.2.2.2.2.2.2.2.2.2.2.2.2.2.2.2.2.2.2.2.1 e), h.2.2.2.2.2.2.2.2.2.2.2.2.2.2.2.2.2.2.2.2.2.2.1, h.2.2.2.2.2.2.2.2.2.2.2.2.2.2.2.2.2.2.2.2.2.2.2.1, h.2.2.2.2.2.2.2.2.2.2.2.2.2.2.2.2.2.2.2.2.2.2.2.2.1, h.2.2.2.2.2.2.2.2.2.2.2.2.2.2.2.2.2.2.2.2.2.2.2.2.2.1, h.2.2.2.2.2.2.2.2.2.2.2.2.2.2.2.2.2.2.2.2.2.2.2.2.2.2.1, fun e => TmPtr.stay hb (h.2.2.2.2.2.2.2.2.2.2.2.2.2.2.2.2.2.2.2.2.2.2.2.2.2.2.2.1 e), h.2.2.2.2.2.2.2.2.2.2.2.2.2.2.2.2.2.2.2.2.2.2.2.2.2.2.2.2.1, fun e => RowSix.stay hb (h.2.2.2.2.2.2.2.2.2.2.2.2.2.2.2.2.2.2.2.2.2.2.2.2.2.2.2.2.2.1 e), fun e => MadeSix.stay hb (h.2.2.2.2.2.2.2.2.2.2.2.2.2.2.2.2.2.2.2.2.2.2.2.2.2.2.2.2.2.2.1 e), fun e => RowSix.stay hb (h.2.2.2.2.2.2.2.2.2.2.2.2.2.2.2.2.2.2.2.2.2.2.2.2.2.2.2.2.2.2.2.1 e), fun e => (h.2.2.2.2.2.2.2.2.2.2.2.2.2.2.2.2.2.2.2.2.2.2.2.2.2.2.2.2.2.2.2.2 e).elim fun sl hs => ⟨sl, hs.1, RowSix.stay hb hs.2⟩⟩)
  case s6 =>
    intro a w' hoff hg hdep K hK
    have h1 := off_at hoff 1 (v := .pointer (some ⟨w.heap.size, 0, none⟩)) (by kernel_rfl) rfl
    rw [if_pos (by rfl)]
    go_simp
    exact hK.out _ _ hg ⟨nn, nn, nn, nn, nn, nn, fun _ => rfl, nn, nn, nn, nn, nn, nn, nn, nn, nn, nn, nn, nn, nn, nn, nn, nn, nn, nn, nn, nn, nn, nn, nn, nn, nn, nn⟩ (fun _ _ h => h)
  case s7 =>
    intro a w' hoff hg hdep K hK
    obtain ⟨v6, e6, f6⟩ := hdep 6 _ 65 (by kernel_rfl) rfl rfl
    obtain rfl := (f6.2.2.2.2.2.2.1 rfl).symm
    rw [if_pos (by rfl)]
    go_simp
    exact hK.out _ _ hg ⟨nn, nn, nn, nn, nn, nn, nn, fun _ => rfl, nn, nn, nn, nn, nn, nn, nn, nn, nn, nn, nn, nn, nn, nn, nn, nn, nn, nn, nn, nn, nn, nn, nn, nn, nn⟩ (fun _ _ h => h)
  case s8 =>
    intro a w' hoff hg hdep K hK
    obtain ⟨v7, e7, f7⟩ := hdep 7 _ 66 (by kernel_rfl) rfl rfl
    obtain rfl := (f7.2.2.2.2.2.2.2.1 rfl).symm
    rw [if_pos (by rfl)]
    obtain ⟨p0, p1, p2, p3, p4, p5⟩ := (X1.out.on hg).cells
    go_simp
    exact hK.out _ _ hg ⟨nn, nn, nn, nn, nn, nn, nn, nn, fun _ => rfl, nn, nn, nn, nn, nn, nn, nn, nn, nn, nn, nn, nn, nn, nn, nn, nn, nn, nn, nn, nn, nn, nn, nn, nn⟩ (fun _ _ h => h)
  case s9 =>
    intro a w' hoff hg hdep K hK
    obtain ⟨v8, e8, f8⟩ := hdep 8 _ 67 (by kernel_rfl) rfl rfl
    obtain rfl := (f8.2.2.2.2.2.2.2.2.1 rfl).symm
    rw [if_pos (by rfl)]
    go_simp
    refine (pick6_any (x.n3) 2 w' HX.out.2.2.2.2.2 (by omega) (by omega)).mono ?_
    rintro e w2' ⟨rfl, rfl⟩
    rw [HM3.out]
    have hb := Below.refl w'.heap.size w'
    exact hK.out _ _ (Below.step hg hb) ⟨nn, nn, nn, nn, nn, nn, nn, nn, nn, fun _ => rfl, nn, nn, nn, nn, nn, nn, nn, nn, nn, nn, nn, nn, nn, nn, nn, nn, nn, nn, nn, nn, nn, nn, nn⟩ (fun _ _ h => ⟨h.1, h.2.1, h.2.2.1, h.2.2.2.1, h.2.2.2.2.1, fun e => StrTwo.stay hb (h.2.2.2.2.2.1 e), h.2.2.2.2.2.2.1, h.2.2.2.2.2.2.2.1, h.2.2.2.2.2.2.2.2.1, h.2.2.2.2.2.2.2.2.2.1, fun e => StrPtr.stay hb (h.2.2.2.2.2.2.2.2.2.2.1 e), h.2.2.2.2.2.2.2.2.2.2.2.1, h.2.2.2.2.2.2.2.2.2.2.2.2.1, h.2.2.2.2.2.2.2.2.2.2.2.2.2.1, h.2.2.2.2.2.2.2.2.2.2.2.2.2.2.1, h.2.2.2.2.2.2.2.2.2.2.2.2.2.2.2.1, h.2.2.2.2.2.2.2.2.2.2.2.2.2.2.2.2.1, h.2.2.2.2.2.2.2.2.2.2.2.2.2.2.2.2.2.1, h.2.2.2.2.2.2.2.2.2.2.2.2.2.2.2.2.2.2.1, h.2.2.2.2.2.2.2.2.2.2.2.2.2.2.2.2.2.2.2.1, h.2.2.2.2.2.2.2.2.2.2.2.2.2.2.2.2.2.2.2.2.1, fun e => TwoAt.stay hb (h.2.2.2.2.2.2.2.2.2.2.2.2.2.2.2.2.2.2.2.2.2.1 e), h.2.2.2.2.2.2.2.2.2.2.2.2.2.2.2.2.2.2.2.2.2.2.1, h.2.2.2.2.2.2.2.2.2.2.2.2.2.2.2.2.2.2.2.2.2.2.2.1, h.2.2.2.2.2.2.2.2.2.2.2.2.2.2.2.2.2.2.2.2.2.2.2.2.1, h.2.2.2.2.2.2.2.2.2.2.2.2.2.2.2.2.2.2.2.2.2.2.2.2.2.1, h.2.2.2.2.2.2.2.2.2.2.2.2.2.2.2.2.2.2.2.2.2.2.2.2.2.2.1, fun e => TmPtr.stay hb (h.2.2.2.2.2.2.2.2.2.2.2.2.2.2.2.2.2.2.2.2.2.2.2.2.2.2.2.1 e), h.2.2.2.2.2.2.2.2.2.2.2.2.2.2.2.2.2.2.2.2.2.2.2.2.2.2.2.2.1, fun e => RowSix.stay hb (h.2.2.2.2.2.2.2.2.2.2.2.2.2.2.2.2.2.2.2.2.2.2.2.2.2.2.2.2.2.1 e), fun e => MadeSix.stay hb (h.2.2.2.2.2.2.2.2.2.2.2.2.2.2.2.2.2.2.2.2.2.2.2.2.2.2.2.2.2.2.1 e), fun e => RowSix.stay hb (h.2.2.2.2.2.2.2.2.2.2.2.2.2.2.2.2.2.2.2.2.2.2.2.2.2.2.2.2.2.2.2.1 e), fun e => (h.2.2.2.2.2.2.2.2.2.2.2.2.2.2.2.2.2.2.2.2.2.2.2.2.2.2.2.2.2.2.2.2 e).elim fun sl hs => ⟨sl, hs.1, RowSix.stay hb hs.2⟩⟩)
  case s10 =>
    intro a w' hoff hg hdep K hK
    obtain ⟨v5, e5, f5⟩ := hdep 5 _ 64 (by kernel_rfl) rfl rfl
    have g5 := f5.2.2.2.2.2.1 rfl
    obtain ⟨v9, e9, f9⟩ := hdep 9 _ 68 (by kernel_rfl) rfl rfl
    obtain rfl := (f9.2.2.2.2.2.2.2.2.2.1 rfl).symm
    obtain ⟨b64, rfl, k64⟩ := g5
    have hp := str_ptr0 k64
    rw [if_pos (by rfl)]
    go_simp
    exact hK.out _ _ hg ⟨nn, nn, nn, nn, nn, nn, nn, nn, nn, nn, fun _ => hp, nn, nn, nn, nn, nn, nn, nn, nn, nn, nn, nn, nn, nn, nn, nn, nn, nn, nn, nn, nn, nn, nn⟩ (fun _ _ h => h)
  case s11 =>
    intro a w' hoff hg hdep K hK
    obtain ⟨v10, e10, f10⟩ := hdep 10 _ 69 (by kernel_rfl) rfl rfl
    have g10 := f10.2.2.2.2.2.2.2.2.2.2.1 rfl
    obtain ⟨b69, rfl, l69, t0⟩ := g10
    rw [if_pos (by rfl)]
    obtain ⟨p0, p1, p2, p3, p4, p5⟩ := (X1.out.on hg).cells
    go_simp
    exact hK.out _ _ hg ⟨nn, nn, nn, nn, nn, nn, nn, nn, nn, nn, nn, fun _ => rfl, nn, nn, nn, nn, nn, nn, nn, nn, nn, nn, nn, nn, nn, nn, nn, nn, nn, nn, nn, nn, nn⟩ (fun _ _ h => h)
  case s12 =>
    intro a w' hoff hg hdep K hK
    have h1 := off_at hoff 1 (v := .pointer (some ⟨w.heap.size, 0, none⟩)) (by kernel_rfl) rfl
    rw [if_pos (by rfl)]
    go_simp
    exact hK.out _ _ hg ⟨nn, nn, nn, nn, nn, nn, nn, nn, nn, nn, nn, nn, fun _ => rfl, nn, nn, nn, nn, nn, nn, nn, nn, nn, nn, nn, nn, nn, nn, nn, nn, nn, nn, nn, nn⟩ (fun _ _ h => h)
  case s13 =>
    intro a w' hoff hg hdep K hK
    obtain ⟨v12, e12, f12⟩ := hdep 12 _ 71 (by kernel_rfl) rfl rfl
    obtain rfl := (f12.2.2.2.2.2.2.2.2.2.2.2.2.1 rfl).symm
    rw [if_pos (by rfl)]
    go_simp
    exact hK.out _ _ hg ⟨nn, nn, nn, nn, nn, nn, nn, nn, nn, nn, nn, nn, nn, fun _ => rfl, nn, nn, nn, nn, nn, nn, nn, nn, nn, nn, nn, nn, nn, nn, nn, nn, nn, nn, nn⟩ (fun _ _ h => h)
  case s14 =>
    intro a w' hoff hg hdep K hK
    obtain ⟨v13, e13, f13⟩ := hdep 13 _ 72 (by kernel_rfl) rfl rfl
    obtain rfl := (f13.2.2.2.2.2.2.2.2.2.2.2.2.2.1 rfl).symm
    rw [if_pos (by rfl)]
    obtain ⟨p0, p1, p2, p3, p4, p5⟩ := (X1.out.on hg).cells
    go_simp
    exact hK.out _ _ hg ⟨nn, nn, nn, nn, nn, nn, nn, nn, nn, nn, nn, nn, nn, nn, fun _ => rfl, nn, nn, nn, nn, nn, nn, nn, nn, nn, nn, nn, nn, nn, nn, nn, nn, nn, nn⟩ (fun _ _ h => h)
  case s15 =>
    intro a w' hoff hg hdep K hK
    obtain ⟨v14, e14, f14⟩ := hdep 14 _ 73 (by kernel_rfl) rfl rfl
    obtain rfl := (f14.2.2.2.2.2.2.2.2.2.2.2.2.2.2.1 rfl).symm
    rw [if_pos (by rfl)]
    go_simp
    refine (v_any (x.n1) w' HX.out.2.2.2.1).mono ?_
    rintro e w2' ⟨rfl, hb⟩
    exact hK.out _ _ (Below.step hg hb) ⟨nn, nn, nn, nn, nn, nn, nn, nn, nn, nn, nn, nn, nn, nn, nn, fun _ => rfl, nn, nn, nn, nn, nn, nn, nn, nn, nn, nn, nn, nn, nn, nn, nn, nn, nn⟩ (fun _ _ h => ⟨h.1, h.2.1, h.2.2.1, h.2.2.2.1, h.2.2.2.2.1, fun e => StrTwo.stay hb (h.2.2.2.2.2.1 e), h.2.2.2.2.2.2.1, h.2.2.2.2.2.2.2.1, h.2.2.2.2.2.2.2.2.1, h.2.2.2.2.2.2.2.2.2.1, fun e => StrPtr.stay hb (h.2.2.2.2.2.2.2.2.2.2.1 e), h.2.2.2.2.2.2.2.2.2.2.2.1, h.2.2.2.2.2.2.2.2.2.2.2.2.1, h.2.2.2.2.2.2.2.2.2.2.2.2.2.1, h.2.2.2.2.2.2.2.2.2.2.2.2.2.2.1, h.2.2.2.2.2.2.2.2.2.2.2.2.2.2.2.1, h.2.2.2.2.2.2.2.2.2.2.2.2.2.2.2.2.1, h.2.2.2.2.2.2.2.2.2.2.2.2.2.2.2.2.2.1, h.2.2.2.2.2.2.2.2.2.2.2.2.2.2.2.2.2.2.1, h.2.2.2.2.2.2.2.2.2.2.2.2.2.2.2.2.2.2.2.1, h.2.2.2.2.2.2.2.2.2.2.2.2.2.2.2.2.2.2.2.2.1, fun e => TwoAt.stay hb (h.2.2.2.2.2.2.2.2.2.2.2.2.2.2.2.2.2.2.2.2.2.1 e), h.2.2.2.2.2.2.2.2.2.2.2.2.2.2.2.2.2.2.2.2.2.2.1, h.2.2.2.2.2.2.2.2.2.2.2.2.2.2.2.2.2.2.2.2.2.2.2.1, h.2.2.2.2.2.2.2.2.2.2.2.2.2.2.2.2.2.2.2.2.2.2.2.2.1, h.2.2.2.2.2.2.2.2.2.2.2.2.2.2.2.2.2.2.2.2.2.2.2.2.2.1, h.2.2.2.2.2.2.2.2.2.2.2.2.2.2.2.2.2.2.2.2.2.2.2.2.2.2.1, fun e => TmPtr.stay hb (h.2.2.2.2.2.2.2.2.2.2.2.2.2.2.2.2.2.2.2.2.2.2.2.2.2.2.2.1 e), h.2.2.2.2.2.2.2.2.2.2.2.2.2.2.2.2.2.2.2.2.2.2.2.2.2.2.2.2.1, fun e => RowSix.stay hb (h.2.2.2.2.2.2.2.2.2.2.2.2.2.2.2.2.2.2.2.2.2.2.2.2.2.2.2.2.2.1 e), fun e => MadeSix.stay hb (h.2.2.2.2.2.2.2.2.2.2.2.2.2.2.2.2.2.2.2.2.2.2.2.2.2.2.2.2.2.2.1 e), fun e => RowSix.stay hb (h.2.2.2.2.2.2.2.2.2.2.2.2.2.2.2.2.2.2.2.2.2.2.2.2.2.2.2.2.2.2.2.1 e), fun e => (h.2.2.2.2.2.2.2.2.2.2.2.2.2.2.2.2.2.2.2.2.2.2.2.2.2.2.2.2.2.2.2.2 e).elim fun sl hs => ⟨sl, hs.1, RowSix.stay hb hs.2⟩⟩)
  case s16 =>
    intro a w' hoff hg hdep K hK
    rw [if_pos (by rfl)]
    go_simp
    refine (num_any (1) w').mono ?_
    rintro e w2' ⟨rfl, hb⟩
    exact hK.out _ _ (Below.step hg hb) ⟨nn, nn, nn, nn, nn, nn, nn, nn, nn, nn, nn, nn, nn, nn, nn, nn, fun _ => rfl, nn, nn, nn, nn, nn, nn, nn, nn, nn, nn, nn, nn, nn, nn, nn, nn⟩ (fun _ _ h => ⟨h.1, h.2.1, h.2.2.1, h.2.2.2.1, h.2.2.2.2.1, fun e => StrTwo.stay hb (h.2.2.2.2.2.1 e), h.2.2.2.2.2.2.1, h.2.2.2.2.2.2.2.1, h.2.2.2.2.2.2.2.2.1, h.2.2.2.2.2.2.2.2.2.1, fun e => StrPtr.stay hb (h.2.2.2.2.2.2.2.2.2.2.1 e), h.2.2.2.2.2.2.2.2.2.2.2.1, h.2.2.2.2.2.2.2.2.2.2.2.2.1, h.2.2.2.2.2.2.2.2.2.2.2.2.2.1, h.2.2.2.2.2.2.2.2.2.2.2.2.2.2.1, h.2.2.2.2.2.2.2.2.2.2.2.2.2.2.2.1, h.2.2.2.2.2.2.2.2.2.2.2.2.2.2.2.2.1, h.2.2.2.2.2.2.2.2.2.2.2.2.2.2.2.2.2.1, h.2.2.2.2.2.2.2.2.2.2.2.2.2.2.2.2.2.2.1, h.2.2.2.2.2.2.2.2.2.2.2.2.2.2.2.2.2.2.2.1, h.2.2.2.2.2.2.2.2.2.2.2.2.2.2.2.2.2.2.2.2.1, fun e => TwoAt.stay hb (h.2.2.2.2.2.2.2.2.2.2.2.2.2.2.2.2.2.2.2.2.2.1 e), h.2.2.2.2.2.2.2.2.2.2.2.2.2.2.2.2.2.2.2.2.2.2.1, h.2.2.2.2.2.2.2.2.2.2.2.2.2.2.2.2.2.2.2.2.2.2.2.1, h.2.2.2.2.2.2.2.2.2.2.2.2.2.2.2.2.2.2.2.2.2.2.2.2.1, h.2.2.2.2.2.2.2.2.2.2.2.2.2.2.2.2.2.2.2.2.2.2.2.2.2.1, h.2.2.2.2.2.2.2.2.2.2.2.2.2.2.2.2.2.2.2.2.2.2.2.2.2.2.1, fun e => TmPtr.stay hb (h.2.2.2.2.2.2.2.2.2.2.2.2.2.2.2.2.2.2.2.2.2.2.2.2.2.2.2.1 e), h.2.2.2.2.2.2.2.2.2.2.2.2.2.2.2.2.2.2.2.2.2.2.2.2.2.2.2.2.1, fun e => RowSix.stay hb (h.2.2.2.2.2.2.2.2.2.2.2.2.2.2.2.2.2.2.2.2.2.2.2.2.2.2.2.2.2.1 e), fun e => MadeSix.stay hb (h.2.2.2.2.2.2.2.2.2.2.2.2.2.2.2.2.2.2.2.2.2.2.2.2.2.2.2.2.2.2.1 e), fun e => RowSix.stay hb (h.2.2.2.2.2.2.2.2.2.2.2.2.2.2.2.2.2.2.2.2.2.2.2.2.2.2.2.2.2.2.2.1 e), fun e => (h.2.2.2.2.2.2.2.2.2.2.2.2.2.2.2.2.2.2.2.2.2.2.2.2.2.2.2.2.2.2.2.2 e).elim fun sl hs => ⟨sl, hs.1, RowSix.stay hb hs.2⟩⟩)
  case s17 =>
    intro a w' hoff hg hdep K hK
    have h1 := off_at hoff 1 (v := .pointer (some ⟨w.heap.size, 0, none⟩)) (by kernel_rfl) rfl
    rw [if_pos (by rfl)]
    go_simp
    exact hK.out _ _ hg ⟨nn, nn, nn, nn, nn, nn, nn, nn, nn, nn, nn, nn, nn, nn, nn, nn, nn, fun _ => rfl, nn, nn, nn, nn, nn, nn, nn, nn, nn, nn, nn, nn, nn, nn, nn⟩ (fun _ _ h => h)
  case s18 =>
    intro a w' hoff hg hdep K hK
    obtain ⟨v17, e17, f17⟩ := hdep 17 _ 76 (by kernel_rfl) rfl rfl
    obtain rfl := (f17.2.2.2.2.2.2.2.2.2.2.2.2.2.2.2.2.2.1 rfl).symm
    rw [if_pos (by rfl)]
    go_simp
    exact hK.out _ _ hg ⟨nn, nn, nn, nn, nn, nn, nn, nn, nn, nn, nn, nn, nn, nn, nn, nn, nn, nn, fun _ => rfl, nn, nn, nn, nn, nn, nn, nn, nn, nn, nn, nn, nn, nn, nn⟩ (fun _ _ h => h)
  case s19 =>
    intro a w' hoff hg hdep K hK
    obtain ⟨v18, e18, f18⟩ := hdep 18 _ 77 (by kernel_rfl) rfl rfl
    obtain rfl := (f18.2.2.2.2.2.2.2.2.2.2.2.2.2.2.2.2.2.2.1 rfl).symm
    rw [if_pos (by rfl)]
    obtain ⟨p0, p1, p2, p3, p4, p5⟩ := (X1.out.on hg).cells
    go_simp
    exact hK.out _ _ hg ⟨nn, nn, nn, nn, nn, nn, nn, nn, nn, nn, nn, nn, nn, nn, nn, nn, nn, nn, nn, fun _ => rfl, nn, nn, nn, nn, nn, nn, nn, nn, nn, nn, nn, nn, nn⟩ (fun _ _ h => h)
  case s20 =>
    intro a w' hoff hg hdep K hK
    obtain ⟨v19, e19, f19⟩ := hdep 19 _ 78 (by kernel_rfl) rfl rfl
    obtain rfl := (f19.2.2.2.2.2.2.2.2.2.2.2.2.2.2.2.2.2.2.2.1 rfl).symm
    rw [if_pos (by rfl)]
    go_simp
    refine (v_any (x.n2) w' HX.out.2.2.2.2.1).mono ?_
    rintro e w2' ⟨rfl, hb⟩
    exact hK.out _ _ (Below.step hg hb) ⟨nn, nn, nn, nn, nn, nn, nn, nn, nn, nn, nn, nn, nn, nn, nn, nn, nn, nn, nn, nn, fun _ => rfl, nn, nn, nn, nn, nn, nn, nn, nn, nn, nn, nn, nn⟩ (fun _ _ h => ⟨h.1, h.2.1, h.2.2.1, h.2.2.2.1, h.2.2.2.2.1, fun e => StrTwo.stay hb (h.2.2.2.2.2.1 e), h.2.2.2.2.2.2.1, h.2.2.2.2.2.2.2.1, h.2.2.2.2.2.2.2.2.1, h.2.2.2.2.2.2.2.2.2.1, fun e => StrPtr.stay hb (h.2.2.2.2.2.2.2.2.2.2.1 e), h.2.2.2.2.2.2.2.2.2.2.2.1, h.2.2.2.2.2.2.2.2.2.2.2.2.1, h.2.2.2.2.2.2.2.2.2.2.2.2.2.1, h.2.2.2.2.2.2.2.2.2.2.2.2.2.2.1, h.2.2.2.2.2.2.2.2.2.2.2.2.2.2.2.1, h.2.2.2.2.2.2.2.2.2.2.2.2.2.2.2.2.1, h.2.2.2.2.2.2.2.2.2.2.2.2.2.2.2.2.2.1, h.2.2.2.2.2.2.2.2.2.2.2.2.2.2.2.2.2.2.1, h.2.2.2.2.2.2.2.2.2.2.2.2.2.2.2.2.2.2.2.1, h.2.2.2.2.2.2.2.2.2.2.2.2.2.2.2.2.2.2.2.2.1, fun e => TwoAt.stay hb (h.2.2.2.2.2.2.2.2.2.2.2.2.2.2.2.2.2.2.2.2.2.1 e), h.2.2.2.2.2.2.2.2.2.2.2.2.2.2.2.2.2.2.2.2.2.2.1, h.2.2.2.2.2.2.2.2.2.2.2.2.2.2.2.2.2.2.2.2.2.2.2.1, h.2.2.2.2.2.2.2.2.2.2.2.2.2.2.2.2.2.2.2.2.2.2.2.2.1, h.2.2.2.2.2.2.2.2.2.2.2.2.2.2.2.2.2.2.2.2.2.2.2.2.2.1, h.2.2.2.2.2.2.2.2.2.2.2.2.2.2.2.2.2.2.2.2.2.2.2.2.2.2.1, fun e => TmPtr.stay hb (h.2.2.2.2.2.2.2.2.2.2.2.2.2.2.2.2.2.2.2.2.2.2.2.2.2.2.2.1 e), h.2.2.2.2.2.2.2.2.2.2.2.2.2.2.2.2.2.2.2.2.2.2.2.2.2.2.2.2.1, fun e => RowSix.stay hb (h.2.2.2.2.2.2.2.2.2.2.2.2.2.2.2.2.2.2.2.2.2.2.2.2.2.2.2.2.2.1 e), fun e => MadeSix.stay hb (h.2.2.2.2.2.2.2.2.2.2.2.2.2.2.2.2.2.2.2.2.2.2.2.2.2.2.2.2.2.2.1 e), fun e => RowSix.stay hb (h.2.2.2.2.2.2.2.2.2.2.2.2.2.2.2.2.2.2.2.2.2.2.2.2.2.2.2.2.2.2.2.1 e), fun e => (h.2.2.2.2.2.2.2.2.2.2.2.2.2.2.2.2.2.2.2.2.2.2.2.2.2.2.2.2.2.2.2.2 e).elim fun sl hs => ⟨sl, hs.1, RowSix.stay hb hs.2⟩⟩)
  case s21 =>
    intro a w' hoff hg hdep K hK
    obtain ⟨v16, e16, f16⟩ := hdep 16 _ 75 (by kernel_rfl) rfl rfl
    obtain rfl := (f16.2.2.2.2.2.2.2.2.2.2.2.2.2.2.2.2.1 rfl).symm
    obtain ⟨v20, e20, f20⟩ := hdep 20 _ 79 (by kernel_rfl) rfl rfl
    obtain rfl := (f20.2.2.2.2.2.2.2.2.2.2.2.2.2.2.2.2.2.2.2.2.1 rfl).symm
    rw [if_pos (by rfl)]
    go_simp
    have hb := below_alloc w' (.cells #[.int .i64 2, .string ⟨#[]⟩, .int .i64 1, .int .i64 1, .string ⟨#[]⟩, .slice none 0 0, .slice none 0 0, .int .i64 1, .string (vName (pickZ (x.n2) 6).toNat), .int .i64 0, .int .i64 0, .string ⟨#[]⟩, .slice none 0 0, .slice none 0 0] 48)
    have hp : TwoAt #[.int .i64 2, .string ⟨#[]⟩, .int .i64 1, .int .i64 1, .string ⟨#[]⟩, .slice none 0 0, .slice none 0 0, .int .i64 1, .string (vName (pickZ (x.n2) 6).toNat), .int .i64 0, .int .i64 0, .string ⟨#[]⟩, .slice none 0 0, .slice none 0 0] (w'.alloc (.cells #[.int .i64 2, .string ⟨#[]⟩, .int .i64 1, .int .i64 1, .string ⟨#[]⟩, .slice none 0 0, .slice none 0 0, .int .i64 1, .string (vName (pickZ (x.n2) 6).toNat), .int .i64 0, .int .i64 0, .string ⟨#[]⟩, .slice none 0 0, .slice none 0 0] 48)) (.slice (some ⟨w'.heap.size, 0, none⟩) 2 2) := ⟨_, rfl, alloc_new' _ _⟩
    exact hK.out _ _ (Below.step hg hb) ⟨nn, nn, nn, nn, nn, nn, nn, nn, nn, nn, nn, nn, nn, nn, nn, nn, nn, nn, nn, nn, nn, fun _ => hp, nn, nn, nn, nn, nn, nn, nn, nn, nn, nn, nn⟩ (fun _ _ h => ⟨h.1, h.2.1, h.2.2.1, h.2.2.2.1, h.2.2.2.2.1, fun e => StrTwo.stay hb (h.2.2.2.2.2.1 e), h.2.2.2.2.2.2.1, h.2.2.2.2.2.2.2.1, h.2.2.2.2.2.2.2.2.1, h.2.2.2.2.2.2.2.2.2.1, fun e => StrPtr.stay hb (h.2.2.2.2.2.2.2.2.2.2.1 e), h.2.2.2.2.2.2.2.2.2.2.2.1, h.2.2.2.2.2.2.2.2.2.2.2.2.1, h.2.2.2.2.2.2.2.2.2.2.2.2.2.1, h.2.2.2.2.2.2.2.2.2.2.2.2.2.2.1, h.2.2.2.2.2.2.2.2.2.2.2.2.2.2.2.1, h.2.2.2.2.2.2.2.2.2.2.2.2.2.2.2.2.1, h.2.2.2.2.2.2.2.2.2.2.2.2.2.2.2.2.2.1, h.2.2.2.2.2.2.2.2.2.2.2.2.2.2.2.2.2.2.1, h.2.2.2.2.2.2.2.2.2.2.2.2.2.2.2.2.2.2.2.1, h.2.2.2.2.2.2.2.2.2.2.2.2.2.2.2.2.2.2.2.2.1, fun e => TwoAt.stay hb (h.2.2.2.2.2.2.2.2.2.2.2.2.2.2.2.2.2.2.2.2.2.1 e), h.2.2.2.2.2.2.2.2.2.2.2.2.2.2.2.2.2.2.2.2.2.2.1, h.2.2.2.2.2.2.2.2.2.2.2.2.2.2.2.2.2.2.2.2.2.2.2.1, h.2.2.2.2.2.2.2.2.2.2.2.2.2.2.2.2.2.2.2.2.2.2.2.2.1, h.2.2.2.2.2.2.2.2.2.2.2.2.2.2.2.2.2.2.2.2.2.2.2.2.2.1, h.2.2.2.2.2.2.2.2.2.2.2.2.2.2.2.2.2.2.2.2.2.2.2.2.2.2.1, fun e => TmPtr.stay hb (h.2.2.2.2.2.2.2.2.2.2.2.2.2.2.2.2.2.2.2.2.2.2.2.2.2.2.2.1 e), h.2.2.2.2.2.2.2.2.2.2.2.2.2.2.2.2.2.2.2.2.2.2.2.2.2.2.2.2.1, fun e => RowSix.stay hb (h.2.2.2.2.2.2.2.2.2.2.2.2.2.2.2.2.2.2.2.2.2.2.2.2.2.2.2.2.2.1 e), fun e => MadeSix.stay hb (h.2.2.2.2.2.2.2.2.2.2.2.2.2.2.2.2.2.2.2.2.2.2.2.2.2.2.2.2.2.2.1 e), fun e => RowSix.stay hb (h.2.2.2.2.2.2.2.2.2.2.2.2.2.2.2.2.2.2.2.2.2.2.2.2.2.2.2.2.2.2.2.1 e), fun e => (h.2.2.2.2.2.2.2.2.2.2.2.2.2.2.2.2.2.2.2.2.2.2.2.2.2.2.2.2.2.2.2.2 e).elim fun sl hs => ⟨sl, hs.1, RowSix.stay hb hs.2⟩⟩)
  case s22 =>
    intro a w' hoff hg hdep K hK
    have h1 := off_at hoff 1 (v := .pointer (some ⟨w.heap.size, 0, none⟩)) (by kernel_rfl) rfl
    rw [if_pos (by rfl)]
    go_simp
    exact hK.out _ _ hg ⟨nn, nn, nn, nn, nn, nn, nn, nn, nn, nn, nn, nn, nn, nn, nn, nn, nn, nn, nn, nn, nn, nn, fun _ => rfl, nn, nn, nn, nn, nn, nn, nn, nn, nn, nn⟩ (fun _ _ h => h)
  case s23 =>
    intro a w' hoff hg hdep K hK
    obtain ⟨v22, e22, f22⟩ := hdep 22 _ 81 (by kernel_rfl) rfl rfl
    obtain rfl := (f22.2.2.2.2.2.2.2.2.2.2.2.2.2.2.2.2.2.2.2.2.2.2.1 rfl).symm
    rw [if_pos (by rfl)]
    go_simp
    exact hK.out _ _ hg ⟨nn, nn, nn, nn, nn, nn, nn, nn, nn, nn, nn, nn, nn, nn, nn, nn, nn, nn, nn, nn, nn, nn, nn, fun _ => rfl, nn, nn, nn, nn, nn, nn, nn, nn, nn⟩ (fun _ _ h => h)
  case s24 =>
    intro a w' hoff hg hdep K hK
    obtain ⟨v23, e23, f23⟩ := hdep 23 _ 82 (by kernel_rfl) rfl rfl
    obtain rfl := (f23.2.2.2.2.2.2.2.2.2.2.2.2.2.2.2.2.2.2.2.2.2.2.2.1 rfl).symm
    rw [if_pos (by rfl)]
    obtain ⟨p0, p1, p2, p3, p4, p5⟩ := (X1.out.on hg).cells
    go_simp
    exact hK.out _ _ hg ⟨nn, nn, nn, nn, nn, nn, nn, nn, nn, nn, nn, nn, nn, nn, nn, nn, nn, nn, nn, nn, nn, nn, nn, nn, fun _ => rfl, nn, nn, nn, nn, nn, nn, nn, nn⟩ (fun _ _ h => h)
  case s25 =>
    intro a w' hoff hg hdep K hK
    obtain ⟨v24, e24, f24⟩ := hdep 24 _ 83 (by kernel_rfl) rfl rfl
    obtain rfl := (f24.2.2.2.2.2.2.2.2.2.2.2.2.2.2.2.2.2.2.2.2.2.2.2.2.1 rfl).symm
    rw [if_pos (by rfl)]
    have hw1 : wrap64 (x.n3.tdiv 2) = x.n3.tdiv 2 := by obtain ⟨a1, a2⟩ := (tdiv_i64 HX.out.2.2.2.2.2 2 (by omega)); unfold wrap64; omega
    have hw2 : IntKind.i64.wrap (x.n3.tdiv 2) = x.n3.tdiv 2 := by obtain ⟨a1, a2⟩ := (tdiv_i64 HX.out.2.2.2.2.2 2 (by omega)); rw [IntKind.wrap_i64]; omega
    go_simp
    exact hK.out _ _ hg ⟨nn, nn, nn, nn, nn, nn, nn, nn, nn, nn, nn, nn, nn, nn, nn, nn, nn, nn, nn, nn, nn, nn, nn, nn, nn, fun _ => rfl, nn, nn, nn, nn, nn, nn, nn⟩ (fun _ _ h => h)
  case s26 =>
    intro a w' hoff hg hdep K hK
    obtain ⟨v25, e25, f25⟩ := hdep 25 _ 84 (by kernel_rfl) rfl rfl
    obtain rfl := (f25.2.2.2.2.2.2.2.2.2.2.2.2.2.2.2.2.2.2.2.2.2.2.2.2.2.1 rfl).symm
    rw [if_pos (by rfl)]
    go_simp
    refine (pick6_any (x.n3.tdiv 2) 2 w' (tdiv_i64 HX.out.2.2.2.2.2 2 (by omega)) (by omega) (by omega)).mono ?_
    rintro e w2' ⟨rfl, rfl⟩
    rw [HM4.out]
    have hb := Below.refl w'.heap.size w'
    exact hK.out _ _ (Below.step hg hb) ⟨nn, nn, nn, nn, nn, nn, nn, nn, nn, nn, nn, nn, nn, nn, nn, nn, nn, nn, nn, nn, nn, nn, nn, nn, nn, nn, fun _ => rfl, nn, nn, nn, nn, nn, nn⟩ (fun _ _ h => ⟨h.1, h.2.1, h.2.2.1, h.2.2.2.1, h.2.2.2.2.1, fun e => StrTwo.stay hb (h.2.2.2.2.2.1 e), h.2.2.2.2.2.2.1, h.2.2.2.2.2.2.2.1, h.2.2.2.2.2.2.2.2.1, h.2.2.2.2.2.2.2.2.2.1, fun e => StrPtr.stay hb (h.2.2.2.2.2.2.2.2.2.2.1 e), h.2.2.2.2.2.2.2.2.2.2.2.1, h.2.2.2.2.2.2.2.2.2.2.2.2.1, h.2.2.2.2.2.2.2.2.2.2.2.2.2.1, h.2.2.2.2.2.2.2.2.2.2.2.2.2.2.1, h.2.2.2.2.2.2.2.2.2.2.2.2.2.2.2.1, h.2.2.2.2.2.2.2.2.2.2.2.2.2.2.2.2.1, h.2.2.2.2.2.2.2.2.2.2.2.2.2.2.2.2.2.1, h.2.2.2.2.2.2.2.2.2.2.2.2.2.2.2.2.2.2.1, h.2.2.2.2.2.2.2.2.2.2.2.2.2.2.2.2.2.2.2.1, h.2.2.2.2.2.2.2.2.2.2.2.2.2.2.2.2.2.2.2.2.1, fun e => TwoAt.stay hb (h.2.2.2.2.2.2.2.2.2.2.2.2.2.2.2.2.2.2.2.2.2.1 e), h.2.2.2.2.2.2.2.2.2.2.2.2.2.2.2.2.2.2.2.2.2.2.1, h.2.2.2.2.2.2.2.2.2.2.2.2.2.2.2.2.2.2.2.2.2.2.2.1, h.2.2.2.2.2.2.2.2.2.2.2.2.2.2.2.2.2.2.2.2.2.2.2.2.1, h.2.2.2.2.2.2.2.2.2.2.2.2.2.2.2.2.2.2.2.2.2.2.2.2.2.1, h.2.2.2.2.2.2.2.2.2.2.2.2.2.2.2.2.2.2.2.2.2.2.2.2.2.2.1, fun e => TmPtr.stay hb (h.2.2.2.2.2.2.2.2.2.2.2.2.2.2.2.2.2.2.2.2.2.2.2.2.2.2.2.1 e), h.2.2.2.2.2.2.2.2.2.2.2.2.2.2.2.2.2.2.2.2.2.2.2.2.2.2.2.2.1, fun e => RowSix.stay hb (h.2.2.2.2.2.2.2.2.2.2.2.2.2.2.2.2.2.2.2.2.2.2.2.2.2.2.2.2.2.1 e), fun e => MadeSix.stay hb (h.2.2.2.2.2.2.2.2.2.2.2.2.2.2.2.2.2.2.2.2.2.2.2.2.2.2.2.2.2.2.1 e), fun e => RowSix.stay hb (h.2.2.2.2.2.2.2.2.2.2.2.2.2.2.2.2.2.2.2.2.2.2.2.2.2.2.2.2.2.2.2.1 e), fun e => (h.2.2.2.2.2.2.2.2.2.2.2.2.2.2.2.2.2.2.2.2.2.2.2.2.2.2.2.2.2.2.2.2 e).elim fun sl hs => ⟨sl, hs.1, RowSix.stay hb hs.2⟩⟩)
  case s27 =>
    intro a w' hoff hg hdep K hK
    obtain ⟨v21, e21, f21⟩ := hdep 21 _ 80 (by kernel_rfl) rfl rfl
    have g21 := f21.2.2.2.2.2.2.2.2.2.2.2.2.2.2.2.2.2.2.2.2.2.1 rfl
    obtain ⟨v26, e26, f26⟩ := hdep 26 _ 85 (by kernel_rfl) rfl rfl
    obtain rfl := (f26.2.2.2.2.2.2.2.2.2.2.2.2.2.2.2.2.2.2.2.2.2.2.2.2.2.2.1 rfl).symm
    obtain ⟨b80, rfl, k80⟩ := g21
    have hp := two_ptr0 k80
    rw [if_pos (by rfl)]
    go_simp
    exact hK.out _ _ hg ⟨nn, nn, nn, nn, nn, nn, nn, nn, nn, nn, nn, nn, nn, nn, nn, nn, nn, nn, nn, nn, nn, nn, nn, nn, nn, nn, nn, fun _ => hp, nn, nn, nn, nn, nn⟩ (fun _ _ h => h)
  case s28 =>
    intro a w' hoff hg hdep K hK
    obtain ⟨v27, e27, f27⟩ := hdep 27 _ 86 (by kernel_rfl) rfl rfl
    have g27 := f27.2.2.2.2.2.2.2.2.2.2.2.2.2.2.2.2.2.2.2.2.2.2.2.2.2.2.2.1 rfl
    obtain ⟨b86, rfl, l86, t0, t1, t2, t3, t4, t5, t6⟩ := g27
    rw [if_pos (by rfl)]
    obtain ⟨p0, p1, p2, p3, p4, p5⟩ := (X1.out.on hg).cells
    go_simp
    exact hK.out _ _ hg ⟨nn, nn, nn, nn, nn, nn, nn, nn, nn, nn, nn, nn, nn, nn, nn, nn, nn, nn, nn, nn, nn, nn, nn, nn, nn, nn, nn, nn, fun _ => rfl, nn, nn, nn, nn⟩ (fun _ _ h => h)
  case s29 =>
    intro a w' hoff hg hdep K hK
    obtain ⟨v15, e15, f15⟩ := hdep 15 _ 74 (by kernel_rfl) rfl rfl
    obtain rfl := (f15.2.2.2.2.2.2.2.2.2.2.2.2.2.2.2.1 rfl).symm
    obtain ⟨v28, e28, f28⟩ := hdep 28 _ 87 (by kernel_rfl) rfl rfl
    obtain rfl := (f28.2.2.2.2.2.2.2.2.2.2.2.2.2.2.2.2.2.2.2.2.2.2.2.2.2.2.2.2.1 rfl).symm
    rw [if_pos (by rfl)]
    go_simp
    have hb := below_alloc w' (.cells #[.int .i64 1, .string (vName (pickZ (x.n1) 6).toNat), .int .i64 0, .int .i64 0, .string ⟨#[]⟩, .slice none 0 0, .slice none 0 0, .int .i64 2, .string ⟨#[]⟩, .int .i64 1, .int .i64 1, .string ⟨#[]⟩, .slice none 0 0, .slice none 0 0] 48)
    have hp := row_two (B := (w.heap.size + 2)) (w := w') (y := vTm (pickZ x.n1 6).toNat) (z := numZ 1) (Nat.le_trans HS1.out hg.size) (vTm_rep _ _ _) (numZ_rep _ _ (small64 (by omega)))
    exact hK.out _ _ (Below.step hg hb) ⟨nn, nn, nn, nn, nn, nn, nn, nn, nn, nn, nn, nn, nn, nn, nn, nn, nn, nn, nn, nn, nn, nn, nn, nn, nn, nn, nn, nn, nn, fun _ => hp, nn, nn, nn⟩ (fun _ _ h => ⟨h.1, h.2.1, h.2.2.1, h.2.2.2.1, h.2.2.2.2.1, fun e => StrTwo.stay hb (h.2.2.2.2.2.1 e), h.2.2.2.2.2.2.1, h.2.2.2.2.2.2.2.1, h.2.2.2.2.2.2.2.2.1, h.2.2.2.2.2.2.2.2.2.1, fun e => StrPtr.stay hb (h.2.2.2.2.2.2.2.2.2.2.1 e), h.2.2.2.2.2.2.2.2.2.2.2.1, h.2.2.2.2.2.2.2.2.2.2.2.2.1, h.2.2.2.2.2.2.2.2.2.2.2.2.2.1, h.2.2.2.2.2.2.2.2.2.2.2.2.2.2.1, h.2.2.2.2.2.2.2.2.2.2.2.2.2.2.2.1, h.2.2.2.2.2.2.2.2.2.2.2.2.2.2.2.2.1, h.2.2.2.2.2.2.2.2.2.2.2.2.2.2.2.2.2.1, h.2.2.2.2.2.2.2.2.2.2.2.2.2.2.2.2.2.2.1, h.2.2.2.2.2.2.2.2.2.2.2.2.2.2.2.2.2.2.2.1, h.2.2.2.2.2.2.2.2.2.2.2.2.2.2.2.2.2.2.2.2.1, fun e => TwoAt.stay hb (h.2.2.2.2.2.2.2.2.2.2.2.2.2.2.2.2.2.2.2.2.2.1 e), h.2.2.2.2.2.2.2.2.2.2.2.2.2.2.2.2.2.2.2.2.2.2.1, h.2.2.2.2.2.2.2.2.2.2.2.2.2.2.2.2.2.2.2.2.2.2.2.1, h.2.2.2.2.2.2.2.2.2.2.2.2.2.2.2.2.2.2.2.2.2.2.2.2.1, h.2.2.2.2.2.2.2.2.2.2.2.2.2.2.2.2.2.2.2.2.2.2.2.2.2.1, h.2.2.2.2.2.2.2.2.2.2.2.2.2.2.2.2.2.2.2.2.2.2.2.2.2.2.1, fun e => TmPtr.stay hb (h.2.2.2.2.2.2.2.2.2.2.2.2.2.2.2.2.2.2.2.2.2.2.2.2.2.2.2.1 e), h.2.2.2.2.2.2.2.2.2.2.2.2.2.2.2.2.2.2.2.2.2.2.2.2.2.2.2.2.1, fun e => RowSix.stay hb (h.2.2.2.2.2.2.2.2.2.2.2.2.2.2.2.2.2.2.2.2.2.2.2.2.2.2.2.2.2.1 e), fun e => MadeSix.stay hb (h.2.2.2.2.2.2.2.2.2.2.2.2.2.2.2.2.2.2.2.2.2.2.2.2.2.2.2.2.2.2.1 e), fun e => RowSix.stay hb (h.2.2.2.2.2.2.2.2.2.2.2.2.2.2.2.2.2.2.2.2.2.2.2.2.2.2.2.2.2.2.2.1 e), fun e => (h.2.2.2.2.2.2.2.2.2.2.2.2.2.2.2.2.2.2.2.2.2.2.2.2.2.2.2.2.2.2.2.2 e).elim fun sl hs => ⟨sl, hs.1, RowSix.stay hb hs.2⟩⟩)
  case s30 =>
    intro a w' hoff hg hdep K hK
    obtain ⟨v11, e11, f11⟩ := hdep 11 _ 70 (by kernel_rfl) rfl rfl
    obtain rfl := (f11.2.2.2.2.2.2.2.2.2.2.2.1 rfl).symm
    obtain ⟨v29, e29, f29⟩ := hdep 29 _ 88 (by kernel_rfl) rfl rfl
    have g29 := f29.2.2.2.2.2.2.2.2.2.2.2.2.2.2.2.2.2.2.2.2.2.2.2.2.2.2.2.2.2.1 rfl
    obtain ⟨ra, rn, rc, rfl, k88⟩ := g29
    have hp := made_sum (s := ⟨#[43]⟩) (by decide) k88
    rw [if_pos (by rfl)]
    go_simp
    exact hK.out _ _ hg ⟨nn, nn, nn, nn, nn, nn, nn, nn, nn, nn, nn, nn, nn, nn, nn, nn, nn, nn, nn, nn, nn, nn, nn, nn, nn, nn, nn, nn, nn, nn, fun _ => hp, nn, nn⟩ (fun _ _ h => h)
  case s31 =>
    intro a w' hoff hg hdep K hK
    obtain ⟨v30, e30, f30⟩ := hdep 30 _ 89 (by kernel_rfl) rfl rfl
    have g30 := f30.2.2.2.2.2.2.2.2.2.2.2.2.2.2.2.2.2.2.2.2.2.2.2.2.2.2.2.2.2.2.1 rfl
    obtain ⟨k6, rfl, k89⟩ := g30
    rw [if_pos (by rfl)]
    go_simp
    have hb := below_alloc w' (.cells #[.int .i64 4, .string ⟨#[43]⟩, .int .i64 0, .int .i64 0, .string ⟨#[]⟩, .slice none 0 0, k6] 48)
    have hp := row_one (B := (w.heap.size + 2)) (w := w') (Nat.le_trans HS1.out hg.size) k89
    exact hK.out _ _ (Below.step hg hb) ⟨nn, nn, nn, nn, nn, nn, nn, nn, nn, nn, nn, nn, nn, nn, nn, nn, nn, nn, nn, nn, nn, nn, nn, nn, nn, nn, nn, nn, nn, nn, nn, fun _ => hp, nn⟩ (fun _ _ h => ⟨h.1, h.2.1, h.2.2.1, h.2.2.2.1, h.2.2.2.2.1, fun e => StrTwo.stay hb (h.2.2.2.2.2.1 e), h.2.2.2.2.2.2.1, h.2.2.2.2.2.2.2.1, h.2.2.2.2.2.2.2.2.1, h.2.2.2.2.2.2.2.2.2.1, fun e => StrPtr.stay hb (h.2.2.2.2.2.2.2.2.2.2.1 e), h.2.2.2.2.2.2.2.2.2.2.2.1, h.2.2.2.2.2.2.2.2.2.2.2.2.1, h.2.2.2.2.2.2.2.2.2.2.2.2.2.1, h.2.2.2.2.2.2.2.2.2.2.2.2.2.2.1, h.2.2.2.2.2.2.2.2.2.2.2.2.2.2.2.1, h.2.2.2.2.2.2.2.2.2.2.2.2.2.2.2.2.1, h.2.2.2.2.2.2.2.2.2.2.2.2.2.2.2.2.2.1, h.2.2.2.2.2.2.2.2.2.2.2.2.2.2.2.2.2.2.1, h.2.2.2.2.2.2.2.2.2.2.2.2.2.2.2.2.2.2.2.1, h.2.2.2.2.2.2.2.2.2.2.2.2.2.2.2.2.2.2.2.2.1, fun e => TwoAt.stay hb (h.2.2.2.2.2.2.2.2.2.2.2.2.2.2.2.2.2.2.2.2.2.1 e), h.2.2.2.2.2.2.2.2.2.2.2.2.2.2.2.2.2.2.2.2.2.2.1, h.2.2.2.2.2.2.2.2.2.2.2.2.2.2.2.2.2.2.2.2.2.2.2.1, h.2.2.2.2.2.2.2.2.2.2.2.2.2.2.2.2.2.2.2.2.2.2.2.2.1, h.2.2.2.2.2.2.2.2.2.2.2.2.2.2.2.2.2.2.2.2.2.2.2.2.2.1, h.2.2.2.2.2.2.2.2.2.2.2.2.2.2.2.2.2.2.2.2.2.2.2.2.2.2.1, fun e => TmPtr.stay hb (h.2.2.2.2.2.2.2.2.2.2.2.2.2.2.2.2.2.2.2.2.2.2.2.2.2.2.2.1 e), h.2.2.2.2.2.2.2.2.2.2.2.2.2.2.2.2.2.2.2.2.2.2.2.2.2.2.2.2.1, fun e => RowSix.stay hb (h.2.2.2.2.2.2.2.2.2.2.2.2.2.2.2.2.2.2.2.2.2.2.2.2.2.2.2.2.2.1 e), fun e => MadeSix.stay hb (h.2.2.2.2.2.2.2.2.2.2.2.2.2.2.2.2.2.2.2.2.2.2.2.2.2.2.2.2.2.2.1 e), fun e => RowSix.stay hb (h.2.2.2.2.2.2.2.2.2.2.2.2.2.2.2.2.2.2.2.2.2.2.2.2.2.2.2.2.2.2.2.1 e), fun e => (h.2.2.2.2.2.2.2.2.2.2.2.2.2.2.2.2.2.2.2.2.2.2.2.2.2.2.2.2.2.2.2.2 e).elim fun sl hs => ⟨sl, hs.1, RowSix.stay hb hs.2⟩⟩)
  case s32 =>
    intro a w' hoff hg hdep K hK
    obtain ⟨v4, e4, f4⟩ := hdep 4 _ 63 (by kernel_rfl) rfl rfl
    obtain rfl := (f4.2.2.2.2.1 rfl).symm
    obtain ⟨v31, e31, f31⟩ := hdep 31 _ 90 (by kernel_rfl) rfl rfl
    have g31 := f31.2.2.2.2.2.2.2.2.2.2.2.2.2.2.2.2.2.2.2.2.2.2.2.2.2.2.2.2.2.2.2.1 rfl
    obtain ⟨ra, rn, rc, rfl, k90⟩ := g31
    have hp : ∃ sl, (.agg #[.int .i64 4, .string (vName (pickZ x.n0 6).toNat), .slice ra rn rc] : Value) = .agg #[.int .i64 4, .string (vName (pickZ x.n0 6).toNat), sl] ∧ RowSix (w.heap.size + 2) [sumZ (vTm (pickZ x.n1 6).toNat) (numZ 1) ⟨#[43]⟩] w' sl := ⟨_, rfl, _, _, _, rfl, k90⟩
    rw [if_pos (by rfl)]
    go_simp
    exact hK.out _ _ hg ⟨nn, nn, nn, nn, nn, nn, nn, nn, nn, nn, nn, nn, nn, nn, nn, nn, nn, nn, nn, nn, nn, nn, nn, nn, nn, nn, nn, nn, nn, nn, nn, nn, fun _ => hp⟩ (fun _ _ h => h)
  case last =>
    intro a w' hoff hg hf
    obtain ⟨v0, e0, f0⟩ := hf 0 _ 59 (by decide) rfl rfl
    obtain rfl := (f0.1 rfl).symm
    obtain ⟨v1, e1, f1⟩ := hf 1 _ 60 (by decide) rfl rfl
    obtain rfl := (f1.2.1 rfl).symm
    obtain ⟨v2, e2, f2⟩ := hf 2 _ 61 (by decide) rfl rfl
    obtain rfl := (f2.2.2.1 rfl).symm
    obtain ⟨v3, e3, f3⟩ := hf 3 _ 62 (by decide) rfl rfl
    obtain rfl := (f3.2.2.2.1 rfl).symm
    obtain ⟨v4, e4, f4⟩ := hf 4 _ 63 (by decide) rfl rfl
    obtain rfl := (f4.2.2.2.2.1 rfl).symm
    obtain ⟨v5, e5, f5⟩ := hf 5 _ 64 (by decide) rfl rfl
    have g5 := f5.2.2.2.2.2.1 rfl
    obtain ⟨v6, e6, f6⟩ := hf 6 _ 65 (by decide) rfl rfl
    obtain rfl := (f6.2.2.2.2.2.2.1 rfl).symm
    obtain ⟨v7, e7, f7⟩ := hf 7 _ 66 (by decide) rfl rfl
    obtain rfl := (f7.2.2.2.2.2.2.2.1 rfl).symm
    obtain ⟨v8, e8, f8⟩ := hf 8 _ 67 (by decide) rfl rfl
    obtain rfl := (f8.2.2.2.2.2.2.2.2.1 rfl).symm
    obtain ⟨v9, e9, f9⟩ := hf 9 _ 68 (by decide) rfl rfl
    obtain rfl := (f9.2.2.2.2.2.2.2.2.2.1 rfl).symm
    obtain ⟨v10, e10, f10⟩ := hf 10 _ 69 (by decide) rfl rfl
    have g10 := f10.2.2.2.2.2.2.2.2.2.2.1 rfl
    obtain ⟨v11, e11, f11⟩ := hf 11 _ 70 (by decide) rfl rfl
    obtain rfl := (f11.2.2.2.2.2.2.2.2.2.2.2.1 rfl).symm
    obtain ⟨v12, e12, f12⟩ := hf 12 _ 71 (by decide) rfl rfl
    obtain rfl := (f12.2.2.2.2.2.2.2.2.2.2.2.2.1 rfl).symm
    obtain ⟨v13, e13, f13⟩ := hf 13 _ 72 (by decide) rfl rfl
    obtain rfl := (f13.2.2.2.2.2.2.2.2.2.2.2.2.2.1 rfl).symm
    obtain ⟨v14, e14, f14⟩ := hf 14 _ 73 (by decide) rfl rfl
    obtain rfl := (f14.2.2.2.2.2.2.2.2.2.2.2.2.2.2.1 rfl).symm
    obtain ⟨v15, e15, f15⟩ := hf 15 _ 74 (by decide) rfl rfl
    obtain rfl := (f15.2.2.2.2.2.2.2.2.2.2.2.2.2.2.2.1 rfl).symm
    obtain ⟨v16, e16, f16⟩ := hf 16 _ 75 (by decide) rfl rfl
    obtain rfl := (f16.2.2.2.2.2.2.2.2.2.2.2.2.2.2.2.2.1 rfl).symm
    obtain ⟨v17, e17, f17⟩ := hf 17 _ 76 (by decide) rfl rfl
    obtain rfl := (f17.2.2.2.2.2.2.2.2.2.2.2.2.2.2.2.2.2.1 rfl).symm
    obtain ⟨v18, e18, f18⟩ := hf 18 _ 77 (by decide) rfl rfl
    obtain rfl := (f18.2.2.2.2.2.2.2.2.2.2.2.2.2.2.2.2.2.2.1 rfl).symm
    obtain ⟨v19, e19, f19⟩ := hf 19 _ 78 (by decide) rfl rfl
    obtain rfl := (f19.2.2.2.2.2.2.2.2.2.2.2.2.2.2.2.2.2.2.2.1 rfl).symm
    obtain ⟨v20, e20, f20⟩ := hf 20 _ 79 (by decide) rfl rfl
    obtain rfl := (f20.2.2.2.2.2.2.2.2.2.2.2.2.2.2.2.2.2.2.2.2.1 rfl).symm
    obtain ⟨v21, e21, f21⟩ := hf 21 _ 80 (by decide) rfl rfl
    have g21 := f21.2.2.2.2.2.2.2.2.2.2.2.2.2.2.2.2.2.2.2.2.2.1 rfl
    obtain ⟨v22, e22, f22⟩ := hf 22 _ 81 (by decide) rfl rfl
    obtain rfl := (f22.2.2.2.2.2.2.2.2.2.2.2.2.2.2.2.2.2.2.2.2.2.2.1 rfl).symm
    obtain ⟨v23, e23, f23⟩ := hf 23 _ 82 (by decide) rfl rfl
    obtain rfl := (f23.2.2.2.2.2.2.2.2.2.2.2.2.2.2.2.2.2.2.2.2.2.2.2.1 rfl).symm
    obtain ⟨v24, e24, f24⟩ := hf 24 _ 83 (by decide) rfl rfl
    obtain rfl := (f24.2.2.2.2.2.2.2.2.2.2.2.2.2.2.2.2.2.2.2.2.2.2.2.2.1 rfl).symm
    obtain ⟨v25, e25, f25⟩ := hf 25 _ 84 (by decide) rfl rfl
    obtain rfl := (f25.2.2.2.2.2.2.2.2.2.2.2.2.2.2.2.2.2.2.2.2.2.2.2.2.2.1 rfl).symm
    obtain ⟨v26, e26, f26⟩ := hf 26 _ 85 (by decide) rfl rfl
    obtain rfl := (f26.2.2.2.2.2.2.2.2.2.2.2.2.2.2.2.2.2.2.2.2.2.2.2.2.2.2.1 rfl).symm
    obtain ⟨v27, e27, f27⟩ := hf 27 _ 86 (by decide) rfl rfl
    have g27 := f27.2.2.2.2.2.2.2.2.2.2.2.2.2.2.2.2.2.2.2.2.2.2.2.2.2.2.2.1 rfl
    obtain ⟨v28, e28, f28⟩ := hf 28 _ 87 (by decide) rfl rfl
    obtain rfl := (f28.2.2.2.2.2.2.2.2.2.2.2.2.2.2.2.2.2.2.2.2.2.2.2.2.2.2.2.2.1 rfl).symm
    obtain ⟨v29, e29, f29⟩ := hf 29 _ 88 (by decide) rfl rfl
    have g29 := f29.2.2.2.2.2.2.2.2.2.2.2.2.2.2.2.2.2.2.2.2.2.2.2.2.2.2.2.2.2.1 rfl
    obtain ⟨v30, e30, f30⟩ := hf 30 _ 89 (by decide) rfl rfl
    have g30 := f30.2.2.2.2.2.2.2.2.2.2.2.2.2.2.2.2.2.2.2.2.2.2.2.2.2.2.2.2.2.2.1 rfl
    obtain ⟨v31, e31, f31⟩ := hf 31 _ 90 (by decide) rfl rfl
    have g31 := f31.2.2.2.2.2.2.2.2.2.2.2.2.2.2.2.2.2.2.2.2.2.2.2.2.2.2.2.2.2.2.2.1 rfl
    obtain ⟨v32, e32, f32⟩ := hf 32 _ 91 (by decide) rfl rfl
    have g32 := f32.2.2.2.2.2.2.2.2.2.2.2.2.2.2.2.2.2.2.2.2.2.2.2.2.2.2.2.2.2.2.2.2 rfl
    obtain ⟨sl, rfl, ra, rn, rc, rfl, k9⟩ := g32
    have R3 := Lib.hid (R1.out.on hg); have B3 := Lib.hid (Below.step B1.out hg)
    have z0 := frozen_of_row w' (w.heap.size + 1) 0 _ _ R3.out; have z1 := frozen_of_row w' (w.heap.size + 1) 1 _ _ R3.out; have z2 := frozen_of_row w' (w.heap.size + 1) 2 _ _ R3.out
    obtain ⟨r0, r1, r2⟩ := R3.out.cells
    rw [if_pos (by rfl)]
    rw [hoff.sets [(59, .pointer (some ⟨w.heap.size, 2, none⟩)), (60, .pointer (some ⟨w.heap.size, 2, none⟩)), (61, .int .i64 x.n0), (62, .agg #[.int .i64 1, .string (vName (pickZ (x.n0) 6).toNat), .int .i64 0, .int .i64 0, .string ⟨#[]⟩, .slice none 0 0, .slice none 0 0]), (63, .string (vName (pickZ x.n0 6).toNat)), (64, v5), (65, .pointer (some ⟨w.heap.size, 2, none⟩)), (66, .pointer (some ⟨w.heap.size, 5, none⟩)), (67, .int .i64 x.n3), (68, .int .i64 0), (69, v10), (70, .string ⟨#[43]⟩), (71, .pointer (some ⟨w.heap.size, 2, none⟩)), (72, .pointer (some ⟨w.heap.size, 3, none⟩)), (73, .int .i64 x.n1), (74, .agg #[.int .i64 1, .string (vName (pickZ (x.n1) 6).toNat), .int .i64 0, .int .i64 0, .string ⟨#[]⟩, .slice none 0 0, .slice none 0 0]), (75, .agg #[.int .i64 2, .string ⟨#[]⟩, .int .i64 1, .int .i64 1, .string ⟨#[]⟩, .slice none 0 0, .slice none 0 0]), (76, .pointer (some ⟨w.heap.size, 2, none⟩)), (77, .pointer (some ⟨w.heap.size, 4, none⟩)), (78, .int .i64 x.n2), (79, .agg #[.int .i64 1, .string (vName (pickZ (x.n2) 6).toNat), .int .i64 0, .int .i64 0, .string ⟨#[]⟩, .slice none 0 0, .slice none 0 0]), (80, v21), (81, .pointer (some ⟨w.heap.size, 2, none⟩)), (82, .pointer (some ⟨w.heap.size, 5, none⟩)), (83, .int .i64 x.n3), (84, .int .i64 (x.n3.tdiv 2)), (85, .int .i64 0), (86, v27), (87, .agg #[.int .i64 2, .string ⟨#[]⟩, .int .i64 1, .int .i64 1, .string ⟨#[]⟩, .slice none 0 0, .slice none 0 0]), (88, v29), (89, v30), (90, v31), (91, .agg #[.int .i64 4, .string (vName (pickZ x.n0 6).toNat), .slice ra rn rc])] (by kernel_rfl) (by intro p hp; simp only [List.mem_cons, List.not_mem_nil, or_false] at hp; rcases hp with rfl | rfl | rfl | rfl | rfl | rfl | rfl | rfl | rfl | rfl | rfl | rfl | rfl | rfl | rfl | rfl | rfl | rfl | rfl | rfl | rfl | rfl | rfl | rfl | rfl | rfl | rfl | rfl | rfl | rfl | rfl | rfl | rfl <;> assumption)]
    clear hoff hf e0 f0 e1 f1 e2 f2 e3 f3 e4 f4 e5 f5 e6 f6 e7 f7 e8 f8 e9 f9 e10 f10 e11 f11 e12 f12 e13 f13 e14 f14 e15 f15 e16 f16 e17 f17 e18 f18 e19 f19 e20 f20 e21 f21 e22 f22 e23 f23 e24 f24 e25 f25 e26 f26 e27 f27 e28 f28 e29 f29 e30 f30 e31 f31 e32 f32
    simp only [List.foldl_cons, List.foldl_nil, List.setIfInBounds_toArray, List.set_cons_zero, List.set_cons_succ]
    have HRL : Hid (RepLi (fun k => (w.heap.size + 2) ≤ k ∧ k < w'.heap.size) w' ⟨4, (vName (pickZ x.n0 6).toNat), [sumZ (vTm (pickZ x.n1 6).toNat) (numZ 1) ⟨#[43]⟩]⟩ (.int .i64 4) (.string ((vName (pickZ x.n0 6).toNat))) (.slice ra rn rc)) := ⟨rfl, rfl, small64 (show (0 : Int) ≤ 4 ∧ (4 : Int) ≤ 100 by decide), vName_size _, k9⟩
    clear k9
    go_simp
    clear r0 r1 r2 z0 z1 z2
    have R4 := boxLi_set R3.out (.int .i64 4) (.string ((vName (pickZ x.n0 6).toNat))) (.slice ra rn rc)
    have B4 : Below w.heap.size w (((w'.setCell ⟨w.heap.size + 1, 0, none⟩ (.int .i64 4)).setCell ⟨w.heap.size + 1, 1, none⟩ (.string ((vName (pickZ x.n0 6).toNat)))).setCell ⟨w.heap.size + 1, 2, none⟩ (.slice ra rn rc)) := ((B3.out.setCell (p := ⟨w.heap.size + 1, 0, none⟩) (by simp) _).setCell (p := ⟨w.heap.size + 1, 1, none⟩) (by simp) _).setCell (p := ⟨w.heap.size + 1, 2, none⟩) (by simp) _
    have HRM : RepLi (fun k => w.heap.size ≤ k ∧ k < (((w'.setCell ⟨w.heap.size + 1, 0, none⟩ (.int .i64 4)).setCell ⟨w.heap.size + 1, 1, none⟩ (.string ((vName (pickZ x.n0 6).toNat)))).setCell ⟨w.heap.size + 1, 2, none⟩ (.slice ra rn rc)).heap.size) (((w'.setCell ⟨w.heap.size + 1, 0, none⟩ (.int .i64 4)).setCell ⟨w.heap.size + 1, 1, none⟩ (.string ((vName (pickZ x.n0 6).toNat)))).setCell ⟨w.heap.size + 1, 2, none⟩ (.slice ra rn rc)) ⟨4, (vName (pickZ x.n0 6).toNat), [sumZ (vTm (pickZ x.n1 6).toNat) (numZ 1) ⟨#[43]⟩]⟩ (.int .i64 4) (.string ((vName (pickZ x.n0 6).toNat))) (.slice ra rn rc) := RepLi.on (fun k hk => ⟨by omega, by simp [World.setCell]; exact hk.2⟩) (fun k hk => by rw [Below.heap_setCell _ _ _ _ (show k ≠ w.heap.size + 1 by omega), Below.heap_setCell _ _ _ _ (show k ≠ w.heap.size + 1 by omega), Below.heap_setCell _ _ _ _ (show k ≠ w.heap.size + 1 by omega)]) HRL.out
    have HB4 := Lib.hid B4; have HR4 := Lib.hid HRM
    clear B4 HRM HRL hg
    generalize (((w'.setCell ⟨w.heap.size + 1, 0, none⟩ (.int .i64 4)).setCell ⟨w.heap.size + 1, 1, none⟩ (.string ((vName (pickZ x.n0 6).toNat)))).setCell ⟨w.heap.size + 1, 2, none⟩ (.slice ra rn rc)) = w9 at *
    obtain ⟨r0, r1, r2⟩ := R4.cells
    go_wp2_with fail
    rw [HLZ.out]
    exact bodyPost_ret (v := .agg #[.int .i64 4, .string ((vName (pickZ x.n0 6).toNat)), .slice ra rn rc]) (by simp [results, Try.results36, go_sem, r0, r1, r2]) rfl ⟨_, rfl, HR4.out, HB4.out⟩

set_option maxRecDepth 100000 in
set_option maxHeartbeats 20000000 in
theorem literal_set01 (x : Rw) (w : World) (hx : RwOk x) (h7 : pickZ x.kind 8 = 7) (h3 : pickZ x.n3 2 = 0) (h4 : pickZ (x.n3.tdiv 2) 2 = 1) : Calls Try.prog 36 #[rwV x] w (MadeLi (litZ x) w) := by
  have HX := Lib.hid hx
  rw [rwV]
  go_enter Try.func36, Try.ntmps36
  go_wp2_with fail
  have x1 := boxRw_new w x; have b1 := below_alloc w (.cells #[.int .i64 x.kind, .int .i64 x.name, .int .i64 x.n0, .int .i64 x.n1, .int .i64 x.n2, .int .i64 x.n3] 60)
  have s1 := World.size_alloc w (.cells #[.int .i64 x.kind, .int .i64 x.name, .int .i64 x.n0, .int .i64 x.n1, .int .i64 x.n2, .int .i64 x.n3] 60)
  generalize w.alloc (.cells #[.int .i64 x.kind, .int .i64 x.name, .int .i64 x.n0, .int .i64 x.n1, .int .i64 x.n2, .int .i64 x.n3] 60) = wa at *
  have r2 := boxLi_new wa (.int .i64 0) (.string ⟨#[]⟩) (.slice none 0 0); have b2 := below_alloc wa (.cells #[.int .i64 0, .string ⟨#[]⟩, .slice none 0 0] 42)
  have s2 := World.size_alloc wa (.cells #[.int .i64 0, .string ⟨#[]⟩, .slice none 0 0] 42)
  generalize wa.alloc (.cells #[.int .i64 0, .string ⟨#[]⟩, .slice none 0 0] 42) = wb at *
  rw [s1] at r2
  have X0 := Lib.hid (x1.on b2); have R0 := Lib.hid r2; have B0 := Lib.hid (Below.step b1 b2)
  have HSB : Hid (w.heap.size + 2 ≤ wb.heap.size) := by show _ ≤ _; omega
  clear x1 b1 s1 r2 b2 s2
  obtain ⟨p0, p1, p2, p3, p4, p5⟩ := X0.out.cells
  go_wp2_with fail
  refine (atom_any x wb HX.out).mono ?_
  rintro e w1 ⟨lv, rfl, hm, hb⟩
  have X1 := Lib.hid (X0.out.on hb); have R1 := Lib.hid (R0.out.on hb); have B1 := Lib.hid (Below.step B0.out hb)
  have HS1 : Hid (w.heap.size + 2 ≤ w1.heap.size) := Nat.le_trans HSB.out hb.size
  have HM1 := Lib.hid hm
  obtain ⟨la, lc, rfl⟩ := OwnK.form hm
  clear hm hb p0 p1 p2 p3 p4 p5 X0 R0 B0
  obtain ⟨p0, p1, p2, p3, p4, p5⟩ := X1.out.cells
  go_wp2_with fail
  refine (pick6_any x.kind 8 _ HX.out.1 (by omega) (by omega)).mono ?_
  rintro e w' ⟨rfl, rfl⟩
  have HLZ : Hid (litZ x = ⟨4, vName (pickZ x.n0 6).toNat, [sumZ (vZ x.n1) (vZ x.n2) ⟨#[43]⟩]⟩) := by
    show _ = _
    rw [litZ, if_neg (by omega), if_neg (by omega), if_neg (by omega), if_neg (show ¬ pickZ (x.n3.tdiv 2) 2 = 0 by omega), if_pos h3]
  have HM3 := Lib.hid h3; have HM4 := Lib.hid h4
  rw [h7]
  clear h3 h4 h7 hx p0 p1 p2 p3 p4 p5
  obtain ⟨p0, p1, p2, p3, p4, p5⟩ := X1.out.cells
  go_wp2_with fail
  clear p0 p1 p2 p3 p4 p5
  refine wp_region_factsL (by rfl) 92 (by rfl) (by kernel_rfl) (fun wz iz vz => (iz = 0 → vz = .pointer (some ⟨w.heap.size, 2, none⟩)) ∧ (iz = 1 → vz = .pointer (some ⟨w.heap.size, 2, none⟩)) ∧ (iz = 2 → vz = .int .i64 x.n0) ∧ (iz = 3 → vz = .agg #[.int .i64 1, .string (vName (pickZ (x.n0) 6).toNat), .int .i64 0, .int .i64 0, .string ⟨#[]⟩, .slice none 0 0, .slice none 0 0]) ∧ (iz = 4 → vz = .string (vName (pickZ x.n0 6).toNat)) ∧ (iz = 5 → StrTwo wz vz) ∧ (iz = 6 → vz = .pointer (some ⟨w.heap.size, 2, none⟩)) ∧ (iz = 7 → vz = .pointer (some ⟨w.heap.size, 5, none⟩)) ∧ (iz = 8 → vz = .int .i64 x.n3) ∧ (iz = 9 → vz = .int .i64 0) ∧ (iz = 10 → StrPtr 0 ⟨#[43]⟩ wz vz) ∧ (iz = 11 → vz = .string ⟨#[43]⟩) ∧ (iz = 12 → vz = .pointer (some ⟨w.heap.size, 2, none⟩)) ∧ (iz = 13 → vz = .pointer (some ⟨w.heap.size, 3, none⟩)) ∧ (iz = 14 → vz = .int .i64 x.n1) ∧ (iz = 15 → vz = .agg #[.int .i64 1, .string (vName (pickZ (x.n1) 6).toNat), .int .i64 0, .int .i64 0, .string ⟨#[]⟩, .slice none 0 0, .slice none 0 0]) ∧ (iz = 16 → vz = .agg #[.int .i64 2, .string ⟨#[]⟩, .int .i64 1, .int .i64 1, .string ⟨#[]⟩, .slice none 0 0, .slice none 0 0]) ∧ (iz = 17 → vz = .pointer (some ⟨w.heap.size, 2, none⟩)) ∧ (iz = 18 → vz = .pointer (some ⟨w.heap.size, 4, none⟩)) ∧ (iz = 19 → vz = .int .i64 x.n2) ∧ (iz = 20 → vz = .agg #[.int .i64 1, .string (vName (pickZ (x.n2) 6).toNat), .int .i64 0, .int .i64 0, .string ⟨#[]⟩, .slice none 0 0, .slice none 0 0]) ∧ (iz = 21 → TwoAt #[.int .i64 2, .string ⟨#[]⟩, .int .i64 1, .int .i64 1, .string ⟨#[]⟩, .slice none 0 0, .slice none 0 0, .int .i64 1, .string (vName (pickZ (x.n2) 6).toNat), .int .i64 0, .int .i64 0, .string ⟨#[]⟩, .slice none 0 0, .slice none 0 0] wz vz) ∧ (iz = 22 → vz = .pointer (some ⟨w.heap.size, 2, none⟩)) ∧ (iz = 23 → vz = .pointer (some ⟨w.heap.size, 5, none⟩)) ∧ (iz = 24 → vz = .int .i64 x.n3) ∧ (iz = 25 → vz = .int .i64 (x.n3.tdiv 2)) ∧ (iz = 26 → vz = .int .i64 1) ∧ (iz = 27 → TmPtr 7 (.int .i64 1) (.string (vName (pickZ (x.n2) 6).toNat)) (.int .i64 0) (.int .i64 0) (.string ⟨#[]⟩) (.slice none 0 0) (.slice none 0 0) wz vz) ∧ (iz = 28 → vz = .agg #[.int .i64 1, .string (vName (pickZ (x.n2) 6).toNat), .int .i64 0, .int .i64 0, .string ⟨#[]⟩, .slice none 0 0, .slice none 0 0]) ∧ (iz = 29 → RowSix (w.heap.size + 2) [vTm (pickZ x.n1 6).toNat, vTm (pickZ x.n2 6).toNat] wz vz) ∧ (iz = 30 → MadeSix (w.heap.size + 2) (sumZ (vTm (pickZ x.n1 6).toNat) (vTm (pickZ x.n2 6).toNat) ⟨#[43]⟩) ⟨#[43]⟩ wz vz) ∧ (iz = 31 → RowSix (w.heap.size + 2) [sumZ (vTm (pickZ x.n1 6).toNat) (vTm (pickZ x.n2 6).toNat) ⟨#[43]⟩] wz vz) ∧ (iz = 32 → (∃ sl, vz = .agg #[.int .i64 4, .string (vName (pickZ x.n0 6).toNat), sl] ∧ RowSix (w.heap.size + 2) [sumZ (vTm (pickZ x.n1 6).toNat) (vTm (pickZ x.n2 6).toNat) ⟨#[43]⟩] wz sl))) (fun w' => Below w1.heap.size w1 w') (Below.drew (Below.refl _ _)) ⟨?s0, ?s1, ?s2, ?s3, ?s4, ?s5, ?s6, ?s7, ?s8, ?s9, ?s10, ?s11, ?s12, ?s13, ?s14, ?s15, ?s16, ?s17, ?s18, ?s19, ?s20, ?s21, ?s22, ?s23, ?s24, ?s25, ?s26, ?s27, ?s28, ?s29, ?s30, ?s31, ?s32, trivial⟩ (by rfl) ?last (by decide)
  case s0 =>
    intro a w' hoff hg hdep K hK
    have h1 := off_at hoff 1 (v := .pointer (some ⟨w.heap.size, 0, none⟩)) (by kernel_rfl) rfl
    rw [if_pos (by rfl)]
    go_simp
    exact hK.out _ _ hg ⟨fun _ => rfl, nn, nn, nn, nn, nn, nn, nn, nn, nn, nn, nn, nn, nn, nn, nn, nn, nn, nn, nn, nn, nn, nn, nn, nn, nn, nn, nn, nn, nn, nn, nn, nn⟩ (fun _ _ h => h)
  case s1 =>
    intro a w' hoff hg hdep K hK
    obtain ⟨v0, e0, f0⟩ := hdep 0 _ 59 (by kernel_rfl) rfl rfl
    obtain rfl := (f0.1 rfl).symm
    rw [if_pos (by rfl)]
    go_simp
    exact hK.out _ _ hg ⟨nn, fun _ => rfl, nn, nn, nn, nn, nn, nn, nn, nn, nn, nn, nn, nn, nn, nn, nn, nn, nn, nn, nn, nn, nn, nn, nn, nn, nn, nn, nn, nn, nn, nn, nn⟩ (fun _ _ h => h)
  case s2 =>
    intro a w' hoff hg hdep K hK
    obtain ⟨v1, e1, f1⟩ := hdep 1 _ 60 (by kernel_rfl) rfl rfl
    obtain rfl := (f1.2.1 rfl).symm
    rw [if_pos (by rfl)]
    obtain ⟨p0, p1, p2, p3, p4, p5⟩ := (X1.out.on hg).cells
    go_simp
    exact hK.out _ _ hg ⟨nn, nn, fun _ => rfl, nn, nn, nn, nn, nn, nn, nn, nn, nn, nn, nn, nn, nn, nn, nn, nn, nn, nn, nn, nn, nn, nn, nn, nn, nn, nn, nn, nn, nn, nn⟩ (fun _ _ h => h)
  case s3 =>
    intro a w' hoff hg hdep K hK
    obtain ⟨v2, e2, f2⟩ := hdep 2 _ 61 (by kernel_rfl) rfl rfl
    obtain rfl := (f2.2.2.1 rfl).symm
    rw [if_pos (by rfl)]
    go_simp
    refine (v_any (x.n0) w' HX.out.2.2.1).mono ?_
    rintro e w2' ⟨rfl, hb⟩
    exact hK.out _ _ (Below.step hg hb) ⟨nn, nn, nn, fun _ => rfl, nn, nn, nn, nn, nn, nn, nn, nn, nn, nn, nn, nn, nn, nn, nn, nn, nn, nn, nn, nn, nn, nn, nn, nn, nn, nn, nn, nn, nn⟩ (fun _ _ h => ⟨h.1, h.2.1, h.2.2.1, h.2.2.2.1, h.2.2.2.2.1, fun e => StrTwo.stay hb (h.2.2.2.2.2.1 e), h.2.2.2.2.2.2.1, h.2.2.2.2.2.2.2.1, h.2.2.2.2.2.2.2.2.1, h.2.2.2.2.2.2.2.2.2.1, fun e => StrPtr.stay hb (h.2.2.2.2.2.2.2.2.2.2.1 e), h.2.2.2.2.2.2.2.2.2.2.2.1, h.2.2.2.2.2.2.2.2.2.2.2.2.1, h.2.2.2.2.2.2.2.2.2.2.2.2.2.1, h.2.2.2.2.2.2.2.2.2.2.2.2.2.2.1, h.2.2.2.2.2.2.2.2.2.2.2.2.2.2.2.1, h.2.2.2.2.2.2.2.2.2.2.2.2.2.2.2.2.1, h.2.2.2.2.2.2.2.2.2.2.2.2.2.2.2.2.2.1, h.2.2.2.2.2.2.2.2.2.2.2.2.2.2.2.2.2.2.1, h.2.2.2.2.2.2.2.2.2.2.2.2.2.2.2.2.2.2.2.1, h.2.2.2.2.2.2.2.2.2.2.2.2.2.2.2.2.2.2.2.2.1, fun e => TwoAt.stay hb (h.2.2.2.2.2.2.2.2.2.2.2.2.2.2.2.2.2.2.2.2.2.1 e), h.2.2.2.2.2.2.2.2.2.2.2.2.2.2.2.2.2.2.2.2.2.2.1, h.2.2.2.2.2.2.2.2.2.2.2.2.2.2.2.2.2.2.2.2.2.2.2.1, h.2.2.2.2.2.2.2.2.2.2.2.2.2.2.2.2.2.2.2.2.2.2.2.2.1, h.2.2.2.2.2.2.2.2.2.2.2.2.2.2.2.2.2.2.2.2.2.2.2.2.2.1, h.2.2.2.2.2.2.2.2.2.2.2.2.2.2.2.2.2.2.2.2.2.2.2.2.2.2.1, fun e => TmPtr.stay hb (h.2.2.2.2.2.2.2.2.2.2.2.2.2.2.2.2.2.2.2.2.2.2.2.2.2.2.2.1 e), h.2.2.2.2.2.2.2.2.2.2.2.2.2.2.2.2.2.2.2.2.2.2.2.2.2.2.2.2.1, fun e => RowSix.stay hb (h.2.2.2.2.2.2.2.2.2.2.2.2.2.2.2.2.2.2.2.2.2.2.2.2.2.2.2.2.2.1 e), fun e => MadeSix.stay hb (h.2.2.2.2.2.2.2.2.2.2.2.2.2.2.2.2.2.2.2.2.2.2.2.2.2.2.2.2.2.2.1 e), fun e => RowSix.stay hb (h.2.2.2.2.2.2.2.2.2.2.2.2.2.2.2.2.2.2.2.2.2.2.2.2.2.2.2.2.2.2.2.1 e), fun e => (h.2.2.2.2.2.2.2.2.2.2.2.2.2.2.2.2.2.2.2.2.2.2.2.2.2.2.2.2.2.2.2.2 e).elim fun sl hs => ⟨sl, hs.1, RowSix.stay hb hs.2⟩⟩)
  case s4 =>
    intro a w' hoff hg hdep K hK
    obtain ⟨v3, e3, f3⟩ := hdep 3 _ 62 (by kernel_rfl) rfl rfl
    obtain rfl := (f3.2.2.2.1 rfl).symm
    rw [if_pos (by rfl)]
    have hf : Sem.run Try.prog (Instr.field 48 (.agg #[.int .i64 1, .string (vName (pickZ (x.n0) 6).toNat), .int .i64 0, .int .i64 0, .string ⟨#[]⟩, .slice none 0 0, .slice none 0 0]) 1) w' = .ok (.string (vName (pickZ x.n0 6).toNat)) w' := by kernel_rfl
    go_simp
    exact hK.out _ _ hg ⟨nn, nn, nn, nn, fun _ => rfl, nn, nn, nn, nn, nn, nn, nn, nn, nn, nn, nn, nn, nn, nn, nn, nn, nn, nn, nn, nn, nn, nn, nn, nn, nn, nn, nn, nn⟩ (fun _ _ h => h)
  case s5 =>
    intro a w' hoff hg hdep K hK
    rw [if_pos (by rfl)]
    go_simp
    have hb := below_alloc w' (.cells #[.string ⟨#[43]⟩, .string ⟨#[45]⟩] 9)
    have hp : StrTwo (w'.alloc (.cells #[.string ⟨#[43]⟩, .string ⟨#[45]⟩] 9)) (.slice (some ⟨w'.heap.size, 0, none⟩) 2 2) := ⟨_, rfl, alloc_new' _ _⟩
    exact hK.out _ _ (Below.step hg hb) ⟨nn, nn, nn, nn, nn, fun _ => hp, nn, nn, nn, nn, nn, nn, nn, nn, nn, nn, nn, nn, nn, nn, nn, nn, nn, nn, nn, nn, nn, nn, nn, nn, nn, nn, nn⟩ (fun _ _ h => ⟨h.1, h.2.1, h.2.2.1, h.2.2.2.1, h.2.2.2.2.1, fun e => StrTwo.stay hb (h.2.2.2.2.2.1 e), h.2.2.2.2.2.2.1, h.2.2.2.2.2.2.2.1, h.2.2.2.2.2.2.2.2.1, h.2.2.2.2.2.2.2.2.2.1, fun e => StrPtr.stay hb (h.2.2.2.2.2.2.2.2.2.2.1 e), h.2.2.2.2.2.2.2.2.2.2.2.1, h.2.2.2.2.2.2.2.2.2.2.2.2.1, h.2.2.2.2.2.2.2.2.2.2.2.2.2.1, h.2.2.2.2.2.2.2.2.2.2.2.2.2.2.1, h.2.2.2.2.2.2.2.2.2.2.2.2.2.2.2.1, h.2.2.2.2.2.2.2.2.2.2.2.2.2.2.2.2.1, h.2.2.2.2.2.2.2.2.2.2.2.2.2.2.2.2.2.1, h.2.2.2.2.2.2.2.2.2.2.2.2.2.2.2.2.2.2.1, h.2.2.2.2.2.2.2.2.2.2.2.2.2.2.2.2.2.2.2.1, h.2.2.2.2.2.2.2.2.2.2.2.2.2.2.2.2.2.2.2.2.1, fun e => TwoAt.stay hb (h.2.2.2.2.2.2.2.2.2.2.2.2.2.2.2.2.2.2.2.2.2.1 e), h.2.2.2.2.2.2.2.2.2.2.2.2.2.2.2.2.2.2.2.2.2.2.1, h.2.2.2.2.2.2.2.2.2.2.2.2.2.2.2.2.2.2.2.2.2.2.2.1, h.2.2.2.2.2.2.2.2.2.2.2.2.2.2.2.2.2.2.2.2.2.2.2.2.1, h.2.2.2.2.2.2.2.2.2.2.2.2.2.2.2.2.2.2.2.2.2.2.2.2.2.1, h.2.2.2.2.2.2.2.2.2.2.2.2.2.2.2.2.2.2.2.2.2.2.2.2.2.2.1, fun e => TmPtr.stay hb (h.2.2.2.2.2.2.2.2.2.2.2.2.2.2.2.2.2.2.2.2.2.2.2.2.2.2.2.1 e), h.2.2.2.2.2.2.2.2.2.2.2.2.2.2.2.2.2.2.2.2.2.2.2.2.2.2.2.2.1, fun e => RowSix.stay hb (h.2.2.2.2.2.2.2.2.2.2.2.2.2.2.2.2.2.2.2.2.2.2.2.2.2.2.2.2.2.1 e), fun e => MadeSix.stay hb (h.2.2.2.2.2.2.2.2.2.2.2.2.2.2.2.2.2.2.2.2.2.2.2.2.2.2.2.2.2.2.1 e), fun e => RowSix.stay hb (h.2.2.2.2.2.2.2.2.2.2.2.2.2.2.2.2.2.2.2.2.2.2.2.2.2.2.2.2.2.2.2.1 e), fun e => (h.2.2.2.2.2.2.2.2.2.2.2.2.2.2.2.2.2.2.2.2.2.2.2.2.2.2.2.2.2.2.2.2 e).elim fun sl hs => ⟨sl, hs.1, RowSix.stay hb hs.2⟩⟩)
  case s6 =>
    intro a w' hoff hg hdep K hK
    have h1 := off_at hoff 1 (v := .pointer (some ⟨w.heap.size, 0, none⟩)) (by kernel_rfl) rfl
    rw [if_pos (by rfl)]
    go_simp
    exact hK.out _ _ hg ⟨nn, nn, nn, nn, nn, nn, fun _ => rfl, nn, nn, nn, nn, nn, nn, nn, nn, nn, nn, nn, nn, nn, nn, nn, nn, nn, nn, nn, nn, nn, nn, nn, nn, nn, nn⟩ (fun _ _ h => h)
  case s7 =>
    intro a w' hoff hg hdep K hK
    obtain ⟨v6, e6, f6⟩ := hdep 6 _ 65 (by kernel_rfl) rfl rfl
    obtain rfl := (f6.2.2.2.2.2.2.1 rfl).symm
    rw [if_pos (by rfl)]
    go_simp
    exact hK.out _ _ hg ⟨nn, nn, nn, nn, nn, nn, nn, fun _ => rfl, nn, nn, nn, nn, nn, nn, nn, nn, nn, nn, nn, nn, nn, nn, nn, nn, nn, nn, nn, nn, nn, nn, nn, nn, nn⟩ (fun _ _ h => h)
  case s8 =>
    intro a w' hoff hg hdep K hK
    obtain ⟨v7, e7, f7⟩ := hdep 7 _ 66 (by kernel_rfl) rfl rfl
    obtain rfl := (f7.2.2.2.2.2.2.2.1 rfl).symm
    rw [if_pos (by rfl)]
    obtain ⟨p0, p1, p2, p3, p4, p5⟩ := (X1.out.on hg).cells
    go_simp
    exact hK.out _ _ hg ⟨nn, nn, nn, nn, nn, nn, nn, nn, fun _ => rfl, nn, nn, nn, nn, nn, nn, nn, nn, nn, nn, nn, nn, nn, nn, nn, nn, nn, nn, nn, nn, nn, nn, nn, nn⟩ (fun _ _ h => h)
  case s9 =>
    intro a w' hoff hg hdep K hK
    obtain ⟨v8, e8, f8⟩ := hdep 8 _ 67 (by kernel_rfl) rfl rfl
    obtain rfl := (f8.2.2.2.2.2.2.2.2.1 rfl).symm
    rw [if_pos (by rfl)]
    go_simp
    refine (pick6_any (x.n3) 2 w' HX.out.2.2.2.2.2 (by omega) (by omega)).mono ?_
    rintro e w2' ⟨rfl, rfl⟩
    rw [HM3.out]
    have hb := Below.refl w'.heap.size w'
    exact hK.out _ _ (Below.step hg hb) ⟨nn, nn, nn, nn, nn, nn, nn, nn, nn, fun _ => rfl, nn, nn, nn, nn, nn, nn, nn, nn, nn, nn, nn, nn, nn, nn, nn, nn, nn, nn, nn, nn, nn, nn, nn⟩ (fun _ _ h => ⟨h.1, h.2.1, h.2.2.1, h.2.2.2.1, h.2.2.2.2.1, fun e => StrTwo.stay hb (h.2.2.2.2.2.1 e), h.2.2.2.2.2.2.1, h.2.2.2.2.2.2.2.1, h.2.2.2.2.2.2.2.2.1, h.2.2.2.2.2.2.2.2.2.1, fun e => StrPtr.stay hb (h.2.2.2.2.2.2.2.2.2.2.1 e), h.2.2.2.2.2.2.2.2.2.2.2.1, h.2.2.2.2.2.2.2.2.2.2.2.2.1, h.2.2.2.2.2.2.2.2.2.2.2.2.2.1, h.2.2.2.2.2.2.2.2.2.2.2.2.2.2.1, h.2.2.2.2.2.2.2.2.2.2.2.2.2.2.2.1, h.2.2.2.2.2.2.2.2.2.2.2.2.2.2.2.2.1, h.2.2.2.2.2.2.2.2.2.2.2.2.2.2.2.2.2.1, h.2.2.2.2.2.2.2.2.2.2.2.2.2.2.2.2.2.2.1, h.2.2.2.2.2.2.2.2.2.2.2.2.2.2.2.2.2.2.2.1, h.2.2.2.2.2.2.2.2.2.2.2.2.2.2.2.2.2.2.2.2.1, fun e => TwoAt.stay hb (h.2.2.2.2.2.2.2.2.2.2.2.2.2.2.2.2.2.2.2.2.2.1 e), h.2.2.2.2.2.2.2.2.2.2.2.2.2.2.2.2.2.2.2.2.2.2.1, h.2.2.2.2.2.2.2.2.2.2.2.2.2.2.2.2.2.2.2.2.2.2.2.1, h.2.2.2.2.2.2.2.2.2.2.2.2.2.2.2.2.2.2.2.2.2.2.2.2.1, h.2.2.2.2.2.2.2.2.2.2.2.2.2.2.2.2.2.2.2.2.2.2.2.2.2.1, h.2.2.2.2.2.2.2.2.2.2.2.2.2.2.2.2.2.2.2.2.2.2.2.2.2.2.1, fun e => TmPtr.stay hb (h.2.2.2.2.2.2.2.2.2.2.2.2.2.2.2.2.2.2.2.2.2.2.2.2.2.2.2.1 e), h.2.2.2.2.2.2.2.2.2.2.2.2.2.2.2.2.2.2.2.2.2.2.2.2.2.2.2.2.1, fun e => RowSix.stay hb (h.2.2.2.2.2.2.2.2.2.2.2.2.2.2.2.2.2.2.2.2.2.2.2.2.2.2.2.2.2.1 e), fun e => MadeSix.stay hb (h.2.2.2.2.2.2.2.2.2.2.2.2.2.2.2.2.2.2.2.2.2.2.2.2.2.2.2.2.2.2.1 e), fun e => RowSix.stay hb (h.2.2.2.2.2.2.2.2.2.2.2.2.2.2.2.2.2.2.2.2.2.2.2.2.2.2.2.2.2.2.2.1 e), fun e => (h.2.2.2.2.2.2.2.2.2.2.2.2.2.2.2.2.2.2.2.2.2.2.2.2.2.2.2.2.2.2.2.2 e).elim fun sl hs => ⟨sl, hs.1, RowSix.stay hb hs.2⟩⟩)
  case s10 =>
    intro a w' hoff hg hdep K hK
    obtain ⟨v5, e5, f5⟩ := hdep 5 _ 64 (by kernel_rfl) rfl rfl
    have g5 := f5.2.2.2.2.2.1 rfl
    obtain ⟨v9, e9, f9⟩ := hdep 9 _ 68 (by kernel_rfl) rfl rfl
    obtain rfl := (f9.2.2.2.2.2.2.2.2.2.1 rfl).symm
    obtain ⟨b64, rfl, k64⟩ := g5
    have hp := str_ptr0 k64
    rw [if_pos (by rfl)]
    go_simp
    exact hK.out _ _ hg ⟨nn, nn, nn, nn, nn, nn, nn, nn, nn, nn, fun _ => hp, nn, nn, nn, nn, nn, nn, nn, nn, nn, nn, nn, nn, nn, nn, nn, nn, nn, nn, nn, nn, nn, nn⟩ (fun _ _ h => h)
  case s11 =>
    intro a w' hoff hg hdep K hK
    obtain ⟨v10, e10, f10⟩ := hdep 10 _ 69 (by kernel_rfl) rfl rfl
    have g10 := f10.2.2.2.2.2.2.2.2.2.2.1 rfl
    obtain ⟨b69, rfl, l69, t0⟩ := g10
    rw [if_pos (by rfl)]
    obtain ⟨p0, p1, p2, p3, p4, p5⟩ := (X1.out.on hg).cells
    go_simp
    exact hK.out _ _ hg ⟨nn, nn, nn, nn, nn, nn, nn, nn, nn, nn, nn, fun _ => rfl, nn, nn, nn, nn, nn, nn, nn, nn, nn, nn, nn, nn, nn, nn, nn, nn, nn, nn, nn, nn, nn⟩ (fun _ _ h => h)
  case s12 =>
    intro a w' hoff hg hdep K hK
    have h1 := off_at hoff 1 (v := .pointer (some ⟨w.heap.size, 0, none⟩)) (by kernel_rfl) rfl
    rw [if_pos (by rfl)]
    go_simp
    exact hK.out _ _ hg ⟨nn, nn, nn, nn, nn, nn, nn, nn, nn, nn, nn, nn, fun _ => rfl, nn, nn, nn, nn, nn, nn, nn, nn, nn, nn, nn, nn, nn, nn, nn, nn, nn, nn, nn, nn⟩ (fun _ _ h => h)
  case s13 =>
    intro a w' hoff hg hdep K hK
    obtain ⟨v12, e12, f12⟩ := hdep 12 _ 71 (by kernel_rfl) rfl rfl
    obtain rfl := (f12.2.2.2.2.2.2.2.2.2.2.2.2.1 rfl).symm
    rw [if_pos (by rfl)]
    go_simp
    exact hK.out _ _ hg ⟨nn, nn, nn, nn, nn, nn, nn, nn, nn, nn, nn, nn, nn, fun _ => rfl, nn, nn, nn, nn, nn, nn, nn, nn, nn, nn, nn, nn, nn, nn, nn, nn, nn, nn, nn⟩ (fun _ _ h => h)
  case s14 =>
    intro a w' hoff hg hdep K hK
    obtain ⟨v13, e13, f13⟩ := hdep 13 _ 72 (by kernel_rfl) rfl rfl
    obtain rfl := (f13.2.2.2.2.2.2.2.2.2.2.2.2.2.1 rfl).symm
    rw [if_pos (by rfl)]
    obtain ⟨p0, p1, p2, p3, p4, p5⟩ := (X1.out.on hg).cells
    go_simp
    exact hK.out _ _ hg ⟨nn, nn, nn, nn, nn, nn, nn, nn, nn, nn, nn, nn, nn, nn, fun _ => rfl, nn, nn, nn, nn, nn, nn, nn, nn, nn, nn, nn, nn, nn, nn, nn, nn, nn, nn⟩ (fun _ _ h => h)
  case s15 =>
    intro a w' hoff hg hdep K hK
    obtain ⟨v14, e14, f14⟩ := hdep 14 _ 73 (by kernel_rfl) rfl rfl
    obtain rfl := (f14.2.2.2.2.2.2.2.2.2.2.2.2.2.2.1 rfl).symm
    rw [if_pos (by rfl)]
    go_simp
    refine (v_any (x.n1) w' HX.out.2.2.2.1).mono ?_
    rintro e w2' ⟨rfl, hb⟩
    exact hK.out _ _ (Below.step hg hb) ⟨nn, nn, nn, nn, nn, nn, nn, nn, nn, nn, nn, nn, nn, nn, nn, fun _ => rfl, nn, nn, nn, nn, nn, nn, nn, nn, nn, nn, nn, nn, nn, nn, nn, nn, nn⟩ (fun _ _ h => ⟨h.1, h.2.1, h.2.2.1, h.2.2.2.1, h.2.2.2.2.1, fun e => StrTwo.stay hb (h.2.2.2.2.2.1 e), h.2.2.2.2.2.2.1, h.2.2.2.2.2.2.2.1, h.2.2.2.2.2.2.2.2.1, h.2.2.2.2.2.2.2.2.2.1, fun e => StrPtr.stay hb (h.2.2.2.2.2.2.2.2.2.2.1 e), h.2.2.2.2.2.2.2.2.2.2.2.1, h.2.2.2.2.2.2.2.2.2.2.2.2.1, h.2.2.2.2.2.2.2.2.2.2.2.2.2.1, h.2.2.2.2.2.2.2.2.2.2.2.2.2.2.1, h.2.2.2.2.2.2.2.2.2.2.2.2.2.2.2.1, h.2.2.2.2.2.2.2.2.2.2.2.2.2.2.2.2.1, h.2.2.2.2.2.2.2.2.2.2.2.2.2.2.2.2.2.1, h.2.2.2.2.2.2.2.2.2.2.2.2.2.2.2.2.2.2.1, h.2.2.2.2.2.2.2.2.2.2.2.2.2.2.2.2.2.2.2.1, h.2.2.2.2.2.2.2.2.2.2.2.2.2.2.2.2.2.2.2.2.1, fun e => TwoAt.stay hb (h.2.2.2.2.2.2.2.2.2.2.2.2.2.2.2.2.2.2.2.2.2.1 e), h.2.2.2.2.2.2.2.2.2.2.2.2.2.2.2.2.2.2.2.2.2.2.1, h.2.2.2.2.2.2.2.2.2.2.2.2.2.2.2.2.2.2.2.2.2.2.2.1, h.2.2.2.2.2.2.2.2.2.2.2.2.2.2.2.2.2.2.2.2.2.2.2.2.1, h.2.2.2.2.2.2.2.2.2.2.2.2.2.2.2.2.2.2.2.2.2.2.2.2.2.1, h.2.2.2.2.2.2.2.2.2.2.2.2.2.2.2.2.2.2.2.2.2.2.2.2.2.2.1, fun e => TmPtr.stay hb (h.2.2.2.2.2.2.2.2.2.2.2.2.2.2.2.2.2.2.2.2.2.2.2.2.2.2.2.1 e), h.2.2.2.2.2.2.2.2.2.2.2.2.2.2.2.2.2.2.2.2.2.2.2.2.2.2.2.2.1, fun e => RowSix.stay hb (h.2.2.2.2.2.2.2.2.2.2.2.2.2.2.2.2.2.2.2.2.2.2.2.2.2.2.2.2.2.1 e), fun e => MadeSix.stay hb (h.2.2.2.2.2.2.2.2.2.2.2.2.2.2.2.2.2.2.2.2.2.2.2.2.2.2.2.2.2.2.1 e), fun e => RowSix.stay hb (h.2.2.2.2.2.2.2.2.2.2.2.2.2.2.2.2.2.2.2.2.2.2.2.2.2.2.2.2.2.2.2.1 e), fun e => (h.2.2.2.2.2.2.2.2.2.2.2.2.2.2.2.2.2.2.2.2.2.2.2.2.2.2.2.2.2.2.2.2 e).elim fun sl hs => ⟨sl, hs.1, RowSix.stay hb hs.2⟩⟩)
  case s16 =>
    intro a w' hoff hg hdep K hK
    rw [if_pos (by rfl)]
    go_simp
    refine (num_any (1) w').mono ?_
    rintro e w2' ⟨rfl, hb⟩
    exact hK.out _ _ (Below.step hg hb) ⟨nn, nn, nn, nn, nn, nn, nn, nn, nn, nn, nn, nn, nn, nn, nn, nn, fun _ => rfl, nn, nn, nn, nn, nn, nn, nn, nn, nn, nn, nn, nn, nn, nn, nn, nn⟩ (fun _ _ h => ⟨h.1, h.2.1, h.2.2.1, h.2.2.2.1, h.2.2.2.2.1, fun e => StrTwo.stay hb (h.2.2.2.2.2.1 e), h.2.2.2.2.2.2.1, h.2.2.2.2.2.2.2.1, h.2.2.2.2.2.2.2.2.1, h.2.2.2.2.2.2.2.2.2.1, fun e => StrPtr.stay hb (h.2.2.2.2.2.2.2.2.2.2.1 e), h.2.2.2.2.2.2.2.2.2.2.2.1, h.2.2.2.2.2.2.2.2.2.2.2.2.1, h.2.2.2.2.2.2.2.2.2.2.2.2.2.1, h.2.2.2.2.2.2.2.2.2.2.2.2.2.2.1, h.2.2.2.2.2.2.2.2.2.2.2.2.2.2.2.1, h.2.2.2.2.2.2.2.2.2.2.2.2.2.2.2.2.1, h.2.2.2.2.2.2.2.2.2.2.2.2.2.2.2.2.2.1, h.2.2.2.2.2.2.2.2.2.2.2.2.2.2.2.2.2.2.1, h.2.2.2.2.2.2.2.2.2.2.2.2.2.2.2.2.2.2.2.1, h.2.2.2.2.2.2.2.2.2.2.2.2.2.2.2.2.2.2.2.2.1, fun e => TwoAt.stay hb (h.2.2.2.2.2.2.2.2.2.2.2.2.2.2.2.2.2.2.2.2.2.1 e), h.2.2.2.2.2.2.2.2.2.2.2.2.2.2.2.2.2.2.2.2.2.2.1, h.2.2.2.2.2.2.2.2.2.2.2.2.2.2.2.2.2.2.2.2.2.2.2.1, h.2.2.2.2.2.2.2.2.2.2.2.2.2.2.2.2.2.2.2.2.2.2.2.2.1, h.2.2.2.2.2.2.2.2.2.2.2.2.2.2.2.2.2.2.2.2.2.2.2.2.2.1, h.2.2.2.2.2.2.2.2.2.2.2.2.2.2.2.2.2.2.2.2.2.2.2.2.2.2.1, fun e => TmPtr.stay hb (h.2.2.2.2.2.2.2.2.2.2.2.2.2.2.2.2.2.2.2.2.2.2.2.2.2.2.2.1 e), h.2.2.2.2.2.2.2.2.2.2.2.2.2.2.2.2.2.2.2.2.2.2.2.2.2.2.2.2.1, fun e => RowSix.stay hb (h.2.2.2.2.2.2.2.2.2.2.2.2.2.2.2.2.2.2.2.2.2.2.2.2.2.2.2.2.2.1 e), fun e => MadeSix.stay hb (h.2.2.2.2.2.2.2.2.2.2.2.2.2.2.2.2.2.2.2.2.2.2.2.2.2.2.2.2.2.2.1 e), fun e => RowSix.stay hb (h.2.2.2.2.2.2.2.2.2.2.2.2.2.2.2.2.2.2.2.2.2.2.2.2.2.2.2.2.2.2.2.1 e), fun e => (h.2.2.2.2.2.2.2.2.2.2.2.2.2.2.2.2.2.2.2.2.2.2.2.2.2.2.2.2.2.2.2.2 e).elim fun sl hs => ⟨sl, hs.1, RowSix.stay hb hs.2⟩⟩)
  case s17 =>
    intro a w' hoff hg hdep K hK
    have h1 := off_at hoff 1 (v := .pointer (some ⟨w.heap.size, 0, none⟩)) (by kernel_rfl) rfl
    rw [if_pos (by rfl)]
    go_simp
    exact hK.out _ _ hg ⟨nn, nn, nn, nn, nn, nn, nn, nn, nn, nn, nn, nn, nn, nn, nn, nn, nn, fun _ => rfl, nn, nn, nn, nn, nn, nn, nn, nn, nn, nn, nn, nn, nn, nn, nn⟩ (fun _ _ h => h)
  case s18 =>
    intro a w' hoff hg hdep K hK
    obtain ⟨v17, e17, f17⟩ := hdep 17 _ 76 (by kernel_rfl) rfl rfl
    obtain rfl := (f17.2.2.2.2.2.2.2.2.2.2.2.2.2.2.2.2.2.1 rfl).symm
    rw [if_pos (by rfl)]
    go_simp
    exact hK.out _ _ hg ⟨nn, nn, nn, nn, nn, nn, nn, nn, nn, nn, nn, nn, nn, nn, nn, nn, nn, nn, fun _ => rfl, nn, nn, nn, nn, nn, nn, nn, nn, nn, nn, nn, nn, nn, nn⟩ (fun _ _ h => h)
  case s19 =>
    intro a w' hoff hg hdep K hK
    obtain ⟨v18, e18, f18⟩ := hdep 18 _ 77 (by kernel_rfl) rfl rfl
    obtain rfl := (f18.2.2.2.2.2.2.2.2.2.2.2.2.2.2.2.2.2.2.1 rfl).symm
    rw [if_pos (by rfl)]
    obtain ⟨p0, p1, p2, p3, p4, p5⟩ := (X1.out.on hg).cells
    go_simp
    exact hK.out _ _ hg ⟨nn, nn, nn, nn, nn, nn, nn, nn, nn, nn, nn, nn, nn, nn, nn, nn, nn, nn, nn, fun _ => rfl, nn, nn, nn, nn, nn, nn, nn, nn, nn, nn, nn, nn, nn⟩ (fun _ _ h => h)
  case s20 =>
    intro a w' hoff hg hdep K hK
    obtain ⟨v19, e19, f19⟩ := hdep 19 _ 78 (by kernel_rfl) rfl rfl
    obtain rfl := (f19.2.2.2.2.2.2.2.2.2.2.2.2.2.2.2.2.2.2.2.1 rfl).symm
    rw [if_pos (by rfl)]
    go_simp
    refine (v_any (x.n2) w' HX.out.2.2.2.2.1).mono ?_
    rintro e w2' ⟨rfl, hb⟩
    exact hK.out _ _ (Below.step hg hb) ⟨nn, nn, nn, nn, nn, nn, nn, nn, nn, nn, nn, nn, nn, nn, nn, nn, nn, nn, nn, nn, fun _ => rfl, nn, nn, nn, nn, nn, nn, nn, nn, nn, nn, nn, nn⟩ (fun _ _ h => ⟨h.1, h.2.1, h.2.2.1, h.2.2.2.1, h.2.2.2.2.1, fun e => StrTwo.stay hb (h.2.2.2.2.2.1 e), h.2.2.2.2.2.2.1, h.2.2.2.2.2.2.2.1, h.2.2.2.2.2.2.2.2.1, h.2.2.2.2.2.2.2.2.2.1, fun e => StrPtr.stay hb (h.2.2.2.2.2.2.2.2.2.2.1 e), h.2.2.2.2.2.2.2.2.2.2.2.1, h.2.2.2.2.2.2.2.2.2.2.2.2.1, h.2.2.2.2.2.2.2.2.2.2.2.2.2.1, h.2.2.2.2.2.2.2.2.2.2.2.2.2.2.1, h.2.2.2.2.2.2.2.2.2.2.2.2.2.2.2.1, h.2.2.2.2.2.2.2.2.2.2.2.2.2.2.2.2.1, h.2.2.2.2.2.2.2.2.2.2.2.2.2.2.2.2.2.1, h.2.2.2.2.2.2.2.2.2.2.2.2.2.2.2.2.2.2.1, h.2.2.2.2.2.2.2.2.2.2.2.2.2.2.2.2.2.2.2.1, h.2.2.2.2.2.2.2.2.2.2.2.2.2.2.2.2.2.2.2.2.1, fun e => TwoAt.stay hb (h.2.2.2.2.2.2.2.2.2.2.2.2.2.2.2.2.2.2.2.2.2.1 e), h.2.2.2.2.2.2.2.2.2.2.2.2.2.2.2.2.2.2.2.2.2.2.1, h.2.2.2.2.2.2.2.2.2.2.2.2.2.2.2.2.2.2.2.2.2.2.2.1, h.2.2.2.2.2.2.2.2.2.2.2.2.2.2.2.2.2.2.2.2.2.2.2.2.1, h.2.2.2.2.2.2.2.2.2.2.2.2.2.2.2.2.2.2.2.2.2.2.2.2.2.1, h.2.2.2.2.2.2.2.2.2.2.2.2.2.2.2.2.2.2.2.2.2.2.2.2.2.2.1, fun e => TmPtr.stay hb (h.2.2.2.2.2.2.2.2.2.2.2.2.2.2.2.2.2.2.2.2.2.2.2.2.2.2.2.1 e), h.2.2.2.2.2.2.2.2.2.2.2.2.2.2.2.2.2.2.2.2.2.2.2.2.2.2.2.2.1, fun e => RowSix.stay hb (h.2.2.2.2.2.2.2.2.2.2.2.2.2.2.2.2.2.2.2.2.2.2.2.2.2.2.2.2.2.1 e), fun e => MadeSix.stay hb (h.2.2.2.2.2.2.2.2.2.2.2.2.2.2.2.2.2.2.2.2.2.2.2.2.2.2.2.2.2.2.1 e), fun e => RowSix.stay hb (h.2.2.2.2.2.2.2.2.2.2.2.2.2.2.2.2.2.2.2.2.2.2.2.2.2.2.2.2.2.2.2.1 e), fun e => (h.2.2.2.2.2.2.2.2.2.2.2.2.2.2.2.2.2.2.2.2.2.2.2.2.2.2.2.2.2.2.2.2 e).elim fun sl hs => ⟨sl, hs.1, RowSix.stay hb hs.2⟩⟩)
  case s21 =>
    intro a w' hoff hg hdep K hK
    obtain ⟨v16, e16, f16⟩ := hdep 16 _ 75 (by kernel_rfl) rfl rfl
    obtain rfl := (f16.2.2.2.2.2.2.2.2.2.2.2.2.2.2.2.2.1 rfl).symm
    obtain ⟨v20, e20, f20⟩ := hdep 20 _ 79 (by kernel_rfl) rfl rfl
    obtain rfl := (f20.2.2.2.2.2.2.2.2.2.2.2.2.2.2.2.2.2.2.2.2.1 rfl).symm
    rw [if_pos (by rfl)]
    go_simp
    have hb := below_alloc w' (.cells #[.int .i64 2, .string ⟨#[]⟩, .int .i64 1, .int .i64 1, .string ⟨#[]⟩, .slice none 0 0, .slice none 0 0, .int .i64 1, .string (vName (pickZ (x.n2) 6).toNat), .int .i64 0, .int .i64 0, .string ⟨#[]⟩, .slice none 0 0, .slice none 0 0] 48)
    have hp : TwoAt #[.int .i64 2, .string ⟨#[]⟩, .int .i64 1, .int .i64 1, .string ⟨#[]⟩, .slice none 0 0, .slice none 0 0, .int .i64 1, .string (vName (pickZ (x.n2) 6).toNat), .int .i64 0, .int .i64 0, .string ⟨#[]⟩, .slice none 0 0, .slice none 0 0] (w'.alloc (.cells #[.int .i64 2, .string ⟨#[]⟩, .int .i64 1, .int .i64 1, .string ⟨#[]⟩, .slice none 0 0, .slice none 0 0, .int .i64 1, .string (vName (pickZ (x.n2) 6).toNat), .int .i64 0, .int .i64 0, .string ⟨#[]⟩, .slice none 0 0, .slice none 0 0] 48)) (.slice (some ⟨w'.heap.size, 0, none⟩) 2 2) := ⟨_, rfl, alloc_new' _ _⟩
    exact hK.out _ _ (Below.step hg hb) ⟨nn, nn, nn, nn, nn, nn, nn, nn, nn, nn, nn, nn, nn, nn, nn, nn, nn, nn, nn, nn, nn, fun _ => hp, nn, nn, nn, nn, nn, nn, nn, nn, nn, nn, nn⟩ (fun _ _ h => ⟨h.1, h.2.1, h.2.2.1, h.2.2.2.1, h.2.2.2.2.1, fun e => StrTwo.stay hb (h.2.2.2.2.2.1 e), h.2.2.2.2.2.2.1, h.2.2.2.2.2.2.2.1, h.2.2.2.2.2.2.2.2.1, h.2.2.2.2.2.2.2.2.2.1, fun e => StrPtr.stay hb (h.2.2.2.2.2.2.2.2.2.2.1 e), h.2.2.2.2.2.2.2.2.2.2.2.1, h.2.2.2.2.2.2.2.2.2.2.2.2.1, h.2.2.2.2.2.2.2.2.2.2.2.2.2.1, h.2.2.2.2.2.2.2.2.2.2.2.2.2.2.1, h.2.2.2.2.2.2.2.2.2.2.2.2.2.2.2.1, h.2.2.2.2.2.2.2.2.2.2.2.2.2.2.2.2.1, h.2.2.2.2.2.2.2.2.2.2.2.2.2.2.2.2.2.1, h.2.2.2.2.2.2.2.2.2.2.2.2.2.2.2.2.2.2.1, h.2.2.2.2.2.2.2.2.2.2.2.2.2.2.2.2.2.2.2.1, h.2.2.2.2.2.2.2.2.2.2.2.2.2.2.2.2.2.2.2.2.1, fun e => TwoAt.stay hb (h.2.2.2.2.2.2.2.2.2.2.2.2.2.2.2.2.2.2.2.2.2.1 e), h.2.2.2.2.2.2.2.2.2.2.2.2.2.2.2.2.2.2.2.2.2.2.1, h.2.2.2.2.2.2.2.2.2.2.2.2.2.2.2.2.2.2.2.2.2.2.2.1, h.2.2.2.2.2.2.2.2.2.2.2.2.2.2.2.2.2.2.2.2.2.2.2.2.1, h.2.2.2.2.2.2.2.2.2.2.2.2.2.2.2.2.2.2.2.2.2.2.2.2.2.1, h.2.2.2.2.2.2.2.2.2.2.2.2.2.2.2.2.2.2.2.2.2.2.2.2.2.2.1, fun e => TmPtr.stay hb (h.2.2.2.2.2.2.2.2.2.2.2.2.2.2.2.2.2.2.2.2.2.2.2.2.2.2.2.1 e), h.2.2.2.2.2.2.2.2.2.2.2.2.2.2.2.2.2.2.2.2.2.2.2.2.2.2.2.2.1, fun e => RowSix.stay hb (h.2.2.2.2.2.2.2.2.2.2.2.2.2.2.2.2.2.2.2.2.2.2.2.2.2.2.2.2.2.1 e), fun e => MadeSix.stay hb (h.2.2.2.2.2.2.2.2.2.2.2.2.2.2.2.2.2.2.2.2.2.2.2.2.2.2.2.2.2.2.1 e), fun e => RowSix.stay hb (h.2.2.2.2.2.2.2.2.2.2.2.2.2.2.2.2.2.2.2.2.2.2.2.2.2.2.2.2.2.2.2.1 e), fun e => (h.2.2.2.2.2.2.2.2.2.2.2.2.2.2.2.2.2.2.2.2.2.2.2.2.2.2.2.2.2.2.2.2 e).elim fun sl hs => ⟨sl, hs.1, RowSix.stay hb hs.2⟩⟩)
  case s22 =>
    intro a w' hoff hg hdep K hK
    have h1 := off_at hoff 1 (v := .pointer (some ⟨w.heap.size, 0, none⟩)) (by kernel_rfl) rfl
    rw [if_pos (by rfl)]
    go_simp
    exact hK.out _ _ hg ⟨nn, nn, nn, nn, nn, nn, nn, nn, nn, nn, nn, nn, nn, nn, nn, nn, nn, nn, nn, nn, nn, nn, fun _ => rfl, nn, nn, nn, nn, nn, nn, nn, nn, nn, nn⟩ (fun _ _ h => h)
  case s23 =>
    intro a w' hoff hg hdep K hK
    obtain ⟨v22, e22, f22⟩ := hdep 22 _ 81 (by kernel_rfl) rfl rfl
    obtain rfl := (f22.2.2.2.2.2.2.2.2.2.2.2.2.2.2.2.2.2.2.2.2.2.2.1 rfl).symm
    rw [if_pos (by rfl)]
    go_simp
    exact hK.out _ _ hg ⟨nn, nn, nn, nn, nn, nn, nn, nn, nn, nn, nn, nn, nn, nn, nn, nn, nn, nn, nn, nn, nn, nn, nn, fun _ => rfl, nn, nn, nn, nn, nn, nn, nn, nn, nn⟩ (fun _ _ h => h)
  case s24 =>
    intro a w' hoff hg hdep K hK
    obtain ⟨v23, e23, f23⟩ := hdep 23 _ 82 (by kernel_rfl) rfl rfl
    obtain rfl := (f23.2.2.2.2.2.2.2.2.2.2.2.2.2.2.2.2.2.2.2.2.2.2.2.1 rfl).symm
    rw [if_pos (by rfl)]
    obtain ⟨p0, p1, p2, p3, p4, p5⟩ := (X1.out.on hg).cells
    go_simp
    exact hK.out _ _ hg ⟨nn, nn, nn, nn, nn, nn, nn, nn, nn, nn, nn, nn, nn, nn, nn, nn, nn, nn, nn, nn, nn, nn, nn, nn, fun _ => rfl, nn, nn, nn, nn, nn, nn, nn, nn⟩ (fun _ _ h => h)
  case s25 =>
    intro a w' hoff hg hdep K hK
    obtain ⟨v24, e24, f24⟩ := hdep 24 _ 83 (by kernel_rfl) rfl rfl
    obtain rfl := (f24.2.2.2.2.2.2.2.2.2.2.2.2.2.2.2.2.2.2.2.2.2.2.2.2.1 rfl).symm
    rw [if_pos (by rfl)]
    have hw1 : wrap64 (x.n3.tdiv 2) = x.n3.tdiv 2 := by obtain ⟨a1, a2⟩ := (tdiv_i64 HX.out.2.2.2.2.2 2 (by omega)); unfold wrap64; omega
    have hw2 : IntKind.i64.wrap (x.n3.tdiv 2) = x.n3.tdiv 2 := by obtain ⟨a1, a2⟩ := (tdiv_i64 HX.out.2.2.2.2.2 2 (by omega)); rw [IntKind.wrap_i64]; omega
    go_simp
    exact hK.out _ _ hg ⟨nn, nn, nn, nn, nn, nn, nn, nn, nn, nn, nn, nn, nn, nn, nn, nn, nn, nn, nn, nn, nn, nn, nn, nn, nn, fun _ => rfl, nn, nn, nn, nn, nn, nn, nn⟩ (fun _ _ h => h)
  case s26 =>
    intro a w' hoff hg hdep K hK
    obtain ⟨v25, e25, f25⟩ := hdep 25 _ 84 (by kernel_rfl) rfl rfl
    obtain rfl := (f25.2.2.2.2.2.2.2.2.2.2.2.2.2.2.2.2.2.2.2.2.2.2.2.2.2.1 rfl).symm
    rw [if_pos (by rfl)]
    go_simp
    refine (pick6_any (x.n3.tdiv 2) 2 w' (tdiv_i64 HX.out.2.2.2.2.2 2 (by omega)) (by omega) (by omega)).mono ?_
    rintro e w2' ⟨rfl, rfl⟩
    rw [HM4.out]
    have hb := Below.refl w'.heap.size w'
    exact hK.out _ _ (Below.step hg hb) ⟨nn, nn, nn, nn, nn, nn, nn, nn, nn, nn, nn, nn, nn, nn, nn, nn, nn, nn, nn, nn, nn, nn, nn, nn, nn, nn, fun _ => rfl, nn, nn, nn, nn, nn, nn⟩ (fun _ _ h => ⟨h.1, h.2.1, h.2.2.1, h.2.2.2.1, h.2.2.2.2.1, fun e => StrTwo.stay hb (h.2.2.2.2.2.1 e), h.2.2.2.2.2.2.1, h.2.2.2.2.2.2.2.1, h.2.2.2.2.2.2.2.2.1, h.2.2.2.2.2.2.2.2.2.1, fun e => StrPtr.stay hb (h.2.2.2.2.2.2.2.2.2.2.1 e), h.2.2.2.2.2.2.2.2.2.2.2.1, h.2.2.2.2.2.2.2.2.2.2.2.2.1, h.2.2.2.2.2.2.2.2.2.2.2.2.2.1, h.2.2.2.2.2.2.2.2.2.2.2.2.2.2.1, h.2.2.2.2.2.2.2.2.2.2.2.2.2.2.2.1, h.2.2.2.2.2.2.2.2.2.2.2.2.2.2.2.2.1, h.2.2.2.2.2.2.2.2.2.2.2.2.2.2.2.2.2.1, h.2.2.2.2.2.2.2.2.2.2.2.2.2.2.2.2.2.2.1, h.2.2.2.2.2.2.2.2.2.2.2.2.2.2.2.2.2.2.2.1, h.2.2.2.2.2.2.2.2.2.2.2.2.2.2.2.2.2.2.2.2.1, fun e => TwoAt.stay hb (h.2.2.2.2.2.2.2.2.2.2.2.2.2.2.2.2.2.2.2.2.2.1 e), h.2.2.2.2.2.2.2.2.2.2.2.2.2.2.2.2.2.2.2.2.2.2.1, h.2.2.2.2.2.2.2.2.2.2.2.2.2.2.2.2.2.2.2.2.2.2.2.1, h.2.2.2.2.2.2.2.2.2.2.2.2.2.2.2.2.2.2.2.2.2.2.2.2.1, h.2.2.2.2.2.2.2.2.2.2.2.2.2.2.2.2.2.2.2.2.2.2.2.2.2.1, h.2.2.2.2.2.2.2.2.2.2.2.2.2.2.2.2.2.2.2.2.2.2.2.2.2.2.1, fun e => TmPtr.stay hb (h.2.2.2.2.2.2.2.2.2.2.2.2.2.2.2.2.2.2.2.2.2.2.2.2.2.2.2.1 e), h.2.2.2.2.2.2.2.2.2.2.2.2.2.2.2.2.2.2.2.2.2.2.2.2.2.2.2.2.1, fun e => RowSix.stay hb (h.2.2.2.2.2.2.2.2.2.2.2.2.2.2.2.2.2.2.2.2.2.2.2.2.2.2.2.2.2.1 e), fun e => MadeSix.stay hb (h.2.2.2.2.2.2.2.2.2.2.2.2.2.2.2.2.2.2.2.2.2.2.2.2.2.2.2.2.2.2.1 e), fun e => RowSix.stay hb (h.2.2.2.2.2.2.2.2.2.2.2.2.2.2.2.2.2.2.2.2.2.2.2.2.2.2.2.2.2.2.2.1 e), fun e => (h.2.2.2.2.2.2.2.2.2.2.2.2.2.2.2.2.2.2.2.2.2.2.2.2.2.2.2.2.2.2.2.2 e).elim fun sl hs => ⟨sl, hs.1, RowSix.stay hb hs.2⟩⟩)
  case s27 =>
    intro a w' hoff hg hdep K hK
    obtain ⟨v21, e21, f21⟩ := hdep 21 _ 80 (by kernel_rfl) rfl rfl
    have g21 := f21.2.2.2.2.2.2.2.2.2.2.2.2.2.2.2.2.2.2.2.2.2.1 rfl
    obtain ⟨v26, e26, f26⟩ := hdep 26 _ 85 (by kernel_rfl) rfl rfl
    obtain rfl := (f26.2.2.2.2.2.2.2.2.2.2.2.2.2.2.2.2.2.2.2.2.2.2.2.2.2.2.1 rfl).symm
    obtain ⟨b80, rfl, k80⟩ := g21
    have hp := two_ptr1 k80
    rw [if_pos (by rfl)]
    go_simp
    exact hK.out _ _ hg ⟨nn, nn, nn, nn, nn, nn, nn, nn, nn, nn, nn, nn, nn, nn, nn, nn, nn, nn, nn, nn, nn, nn, nn, nn, nn, nn, nn, fun _ => hp, nn, nn, nn, nn, nn⟩ (fun _ _ h => h)
  case s28 =>
    intro a w' hoff hg hdep K hK
    obtain ⟨v27, e27, f27⟩ := hdep 27 _ 86 (by kernel_rfl) rfl rfl
    have g27 := f27.2.2.2.2.2.2.2.2.2.2.2.2.2.2.2.2.2.2.2.2.2.2.2.2.2.2.2.1 rfl
    obtain ⟨b86, rfl, l86, t0, t1, t2, t3, t4, t5, t6⟩ := g27
    rw [if_pos (by rfl)]
    obtain ⟨p0, p1, p2, p3, p4, p5⟩ := (X1.out.on hg).cells
    go_simp
    exact hK.out _ _ hg ⟨nn, nn, nn, nn, nn, nn, nn, nn, nn, nn, nn, nn, nn, nn, nn, nn, nn, nn, nn, nn, nn, nn, nn, nn, nn, nn, nn, nn, fun _ => rfl, nn, nn, nn, nn⟩ (fun _ _ h => h)
  case s29 =>
    intro a w' hoff hg hdep K hK
    obtain ⟨v15, e15, f15⟩ := hdep 15 _ 74 (by kernel_rfl) rfl rfl
    obtain rfl := (f15.2.2.2.2.2.2.2.2.2.2.2.2.2.2.2.1 rfl).symm
    obtain ⟨v28, e28, f28⟩ := hdep 28 _ 87 (by kernel_rfl) rfl rfl
    obtain rfl := (f28.2.2.2.2.2.2.2.2.2.2.2.2.2.2.2.2.2.2.2.2.2.2.2.2.2.2.2.2.1 rfl).symm
    rw [if_pos (by rfl)]
    go_simp
    have hb := below_alloc w' (.cells #[.int .i64 1, .string (vName (pickZ (x.n1) 6).toNat), .int .i64 0, .int .i64 0, .string ⟨#[]⟩, .slice none 0 0, .slice none 0 0, .int .i64 1, .string (vName (pickZ (x.n2) 6).toNat), .int .i64 0, .int .i64 0, .string ⟨#[]⟩, .slice none 0 0, .slice none 0 0] 48)
    have hp := row_two (B := (w.heap.size + 2)) (w := w') (y := vTm (pickZ x.n1 6).toNat) (z := vTm (pickZ x.n2 6).toNat) (Nat.le_trans HS1.out hg.size) (vTm_rep _ _ _) (vTm_rep _ _ _)
    exact hK.out _ _ (Below.step hg hb) ⟨nn, nn, nn, nn, nn, nn, nn, nn, nn, nn, nn, nn, nn, nn, nn, nn, nn, nn, nn, nn, nn, nn, nn, nn, nn, nn, nn, nn, nn, fun _ => hp, nn, nn, nn⟩ (fun _ _ h => ⟨h.1, h.2.1, h.2.2.1, h.2.2.2.1, h.2.2.2.2.1, fun e => StrTwo.stay hb (h.2.2.2.2.2.1 e), h.2.2.2.2.2.2.1, h.2.2.2.2.2.2.2.1, h.2.2.2.2.2.2.2.2.1, h.2.2.2.2.2.2.2.2.2.1, fun e => StrPtr.stay hb (h.2.2.2.2.2.2.2.2.2.2.1 e), h.2.2.2.2.2.2.2.2.2.2.2.1, h.2.2.2.2.2.2.2.2.2.2.2.2.1, h.2.2.2.2.2.2.2.2.2.2.2.2.2.1, h.2.2.2.2.2.2.2.2.2.2.2.2.2.2.1, h.2.2.2.2.2.2.2.2.2.2.2.2.2.2.2.1, h.2.2.2.2.2.2.2.2.2.2.2.2.2.2.2.2.1, h.2.2.2.2.2.2.2.2.2.2.2.2.2.2.2.2.2.1, h.2.2.2.2.2.2.2.2.2.2.2.2.2.2.2.2.2.2.1, h.2.2.2.2.2.2.2.2.2.2.2.2.2.2.2.2.2.2.2.1, h.2.2.2.2.2.2.2.2.2.2.2.2.2.2.2.2.2.2.2.2.1, fun e => TwoAt.stay hb (h.2.2.2.2.2.2.2.2.2.2.2.2.2.2.2.2.2.2.2.2.2.1 e), h.2.2.2.2.2.2.2.2.2.2.2.2.2.2.2.2.2.2.2.2.2.2.1, h.2.2.2.2.2.2.2.2.2.2.2.2.2.2.2.2.2.2.2.2.2.2.2.1, h.2.2.2.2.2.2.2.2.2.2.2.2.2.2.2.2.2.2.2.2.2.2.2.2.1, h.2.2.2.2.2.2.2.2.2.2.2.2.2.2.2.2.2.2.2.2.2.2.2.2.2.1, h.2.2.2.2.2.2.2.2.2.2.2.2.2.2.2.2.2.2.2.2.2.2.2.2.2.2.1, fun e => TmPtr.stay hb (h.2.2.2.2.2.2.2.2.2.2.2.2.2.2.2.2.2.2.2.2.2.2.2.2.2.2.2.1 e), h.2.2.2.2.2.2.2.2.2.2.2.2.2.2.2.2.2.2.2.2.2.2.2.2.2.2.2.2.1, fun e => RowSix.stay hb (h.2.2.2.2.2.2.2.2.2.2.2.2.2.2.2.2.2.2.2.2.2.2.2.2.2.2.2.2.2.1 e), fun e => MadeSix.stay hb (h.2.2.2.2.2.2.2.2.2.2.2.2.2.2.2.2.2.2.2.2.2.2.2.2.2.2.2.2.2.2.1 e), fun e => RowSix.stay hb (h.2.2.2.2.2.2.2.2.2.2.2.2.2.2.2.2.2.2.2.2.2.2.2.2.2.2.2.2.2.2.2.1 e), fun e => (h.2.2.2.2.2.2.2.2.2.2.2.2.2.2.2.2.2.2.2.2.2.2.2.2.2.2.2.2.2.2.2.2 e).elim fun sl hs => ⟨sl, hs.1, RowSix.stay hb hs.2⟩⟩)
  case s30 =>
    intro a w' hoff hg hdep K hK
    obtain ⟨v11, e11, f11⟩ := hdep 11 _ 70 (by kernel_rfl) rfl rfl
    obtain rfl := (f11.2.2.2.2.2.2.2.2.2.2.2.1 rfl).symm
    obtain ⟨v29, e29, f29⟩ := hdep 29 _ 88 (by kernel_rfl) rfl rfl
    have g29 := f29.2.2.2.2.2.2.2.2.2.2.2.2.2.2.2.2.2.2.2.2.2.2.2.2.2.2.2.2.2.1 rfl
    obtain ⟨ra, rn, rc, rfl, k88⟩ := g29
    have hp := made_sum (s := ⟨#[43]⟩) (by decide) k88
    rw [if_pos (by rfl)]
    go_simp
    exact hK.out _ _ hg ⟨nn, nn, nn, nn, nn, nn, nn, nn, nn, nn, nn, nn, nn, nn, nn, nn, nn, nn, nn, nn, nn, nn, nn, nn, nn, nn, nn, nn, nn, nn, fun _ => hp, nn, nn⟩ (fun _ _ h => h)
  case s31 =>
    intro a w' hoff hg hdep K hK
    obtain ⟨v30, e30, f30⟩ := hdep 30 _ 89 (by kernel_rfl) rfl rfl
    have g30 := f30.2.2.2.2.2.2.2.2.2.2.2.2.2.2.2.2.2.2.2.2.2.2.2.2.2.2.2.2.2.2.1 rfl
    obtain ⟨k6, rfl, k89⟩ := g30
    rw [if_pos (by rfl)]
    go_simp
    have hb := below_alloc w' (.cells #[.int .i64 4, .string ⟨#[43]⟩, .int .i64 0, .int .i64 0, .string ⟨#[]⟩, .slice none 0 0, k6] 48)
    have hp := row_one (B := (w.heap.size + 2)) (w := w') (Nat.le_trans HS1.out hg.size) k89
    exact hK.out _ _ (Below.step hg hb) ⟨nn, nn, nn, nn, nn, nn, nn, nn, nn, nn, nn, nn, nn, nn, nn, nn, nn, nn, nn, nn, nn, nn, nn, nn, nn, nn, nn, nn, nn, nn, nn, fun _ => hp, nn⟩ (fun _ _ h => ⟨h.1, h.2.1, h.2.2.1, h.2.2.2.1, h.2.2.2.2.1, fun e => StrTwo.stay hb (h.2.2.2.2.2.1 e), h.2.2.2.2.2.2.1, h.2.2.2.2.2.2.2.1, h.2.2.2.2.2.2.2.2.1, h.2.2.2.2.2.2.2.2.2.1, fun e => StrPtr.stay hb (h.2.2.2.2.2.2.2.2.2.2.1 e), h.2.2.2.2.2.2.2.2.2.2.2.1, h.2.2.2.2.2.2.2.2.2.2.2.2.1, h.2.2.2.2.2.2.2.2.2.2.2.2.2.1, h.2.2.2.2.2.2.2.2.2.2.2.2.2.2.1, h.2.2.2.2.2.2.2.2.2.2.2.2.2.2.2.1, h.2.2.2.2.2.2.2.2.2.2.2.2.2.2.2.2.1, h.2.2.2.2.2.2.2.2.2.2.2.2.2.2.2.2.2.1, h.2.2.2.2.2.2.2.2.2.2.2.2.2.2.2.2.2.2.1, h.2.2.2.2.2.2.2.2.2.2.2.2.2.2.2.2.2.2.2.1, h.2.2.2.2.2.2.2.2.2.2.2.2.2.2.2.2.2.2.2.2.1, fun e => TwoAt.stay hb (h.2.2.2.2.2.2.2.2.2.2.2.2.2.2.2.2.2.2.2.2.2.1 e), h.2.2.2.2.2.2.2.2.2.2.2.2.2.2.2.2.2.2.2.2.2.2.1, h.2.2.2.2.2.2.2.2.2.2.2.2.2.2.2.2.2.2.2.2.2.2.2.1, h.2.2.2.2.2.2.2.2.2.2.2.2.2.2.2.2.2.2.2.2.2.2.2.2.1, h.2.2.2.2.2.2.2.2.2.2.2.2.2.2.2.2.2.2.2.2.2.2.2.2.2.1, h.2.2.2.2.2.2.2.2.2.2.2.2.2.2.2.2.2.2.2.2.2.2.2.2.2.2.1, fun e => TmPtr.stay hb (h.2.2.2.2.2.2.2.2.2.2.2.2.2.2.2.2.2.2.2.2.2.2.2.2.2.2.2.1 e), h.2.2.2.2.2.2.2.2.2.2.2.2.2.2.2.2.2.2.2.2.2.2.2.2.2.2.2.2.1, fun e => RowSix.stay hb (h.2.2.2.2.2.2.2.2.2.2.2.2.2.2.2.2.2.2.2.2.2.2.2.2.2.2.2.2.2.1 e), fun e => MadeSix.stay hb (h.2.2.2.2.2.2.2.2.2.2.2.2.2.2.2.2.2.2.2.2.2.2.2.2.2.2.2.2.2.2.1 e), fun e => RowSix.stay hb (h.2.2.2.2.2.2.2.2.2.2.2.2.2.2.2.2.2.2.2.2.2.2.2.2.2.2.2.2.2.2.2.1 e), fun e => (h.2.2.2.2.2.2.2.2.2.2.2.2.2.2.2.2.2.2.2.2.2.2.2.2.2.2.2.2.2.2.2.2 e).elim fun sl hs => ⟨sl, hs.1, RowSix.stay hb hs.2⟩⟩)
  case s32 =>
    intro a w' hoff hg hdep K hK
    obtain ⟨v4, e4, f4⟩ := hdep 4 _ 63 (by kernel_rfl) rfl rfl
    obtain rfl := (f4.2.2.2.2.1 rfl).symm
    obtain ⟨v31, e31, f31⟩ := hdep 31 _ 90 (by kernel_rfl) rfl rfl
    have g31 := f31.2.2.2.2.2.2.2.2.2.2.2.2.2.2.2.2.2.2.2.2.2.2.2.2.2.2.2.2.2.2.2.1 rfl
    obtain ⟨ra, rn, rc, rfl, k90⟩ := g31
    have hp : ∃ sl, (.agg #[.int .i64 4, .string (vName (pickZ x.n0 6).toNat), .slice ra rn rc] : Value) = .agg #[.int .i64 4, .string (vName (pickZ x.n0 6).toNat), sl] ∧ RowSix (w.heap.size + 2) [sumZ (vTm (pickZ x.n1 6).toNat) (vTm (pickZ x.n2 6).toNat) ⟨#[43]⟩] w' sl := ⟨_, rfl, _, _, _, rfl, k90⟩
    rw [if_pos (by rfl)]
    go_simp
    exact hK.out _ _ hg ⟨nn, nn, nn, nn, nn, nn, nn, nn, nn, nn, nn, nn, nn, nn, nn, nn, nn, nn, nn, nn, nn, nn, nn, nn, nn, nn, nn, nn, nn, nn, nn, nn, fun _ => hp⟩ (fun _ _ h => h)
  case last =>
    intro a w' hoff hg hf
    obtain ⟨v0, e0, f0⟩ := hf 0 _ 59 (by decide) rfl rfl
    obtain rfl := (f0.1 rfl).symm
    obtain ⟨v1, e1, f1⟩ := hf 1 _ 60 (by decide) rfl rfl
    obtain rfl := (f1.2.1 rfl).symm
    obtain ⟨v2, e2, f2⟩ := hf 2 _ 61 (by decide) rfl rfl
    obtain rfl := (f2.2.2.1 rfl).symm
    obtain ⟨v3, e3, f3⟩ := hf 3 _ 62 (by decide) rfl rfl
    obtain rfl := (f3.2.2.2.1 rfl).symm
    obtain ⟨v4, e4, f4⟩ := hf 4 _ 63 (by decide) rfl rfl
    obtain rfl := (f4.2.2.2.2.1 rfl).symm
    obtain ⟨v5, e5, f5⟩ := hf 5 _ 64 (by decide) rfl rfl
    have g5 := f5.2.2.2.2.2.1 rfl
    obtain ⟨v6, e6, f6⟩ := hf 6 _ 65 (by decide) rfl rfl
    obtain rfl := (f6.2.2.2.2.2.2.1 rfl).symm
    obtain ⟨v7, e7, f7⟩ := hf 7 _ 66 (by decide) rfl rfl
    obtain rfl := (f7.2.2.2.2.2.2.2.1 rfl).symm
    obtain ⟨v8, e8, f8⟩ := hf 8 _ 67 (by decide) rfl rfl
    obtain rfl := (f8.2.2.2.2.2.2.2.2.1 rfl).symm
    obtain ⟨v9, e9, f9⟩ := hf 9 _ 68 (by decide) rfl rfl
    obtain rfl := (f9.2.2.2.2.2.2.2.2.2.1 rfl).symm
    obtain ⟨v10, e10, f10⟩ := hf 10 _ 69 (by decide) rfl rfl
    have g10 := f10.2.2.2.2.2.2.2.2.2.2.1 rfl
    obtain ⟨v11, e11, f11⟩ := hf 11 _ 70 (by decide) rfl rfl
    obtain rfl := (f11.2.2.2.2.2.2.2.2.2.2.2.1 rfl).symm
    obtain ⟨v12, e12, f12⟩ := hf 12 _ 71 (by decide) rfl rfl
    obtain rfl := (f12.2.2.2.2.2.2.2.2.2.2.2.2.1 rfl).symm
    obtain ⟨v13, e13, f13⟩ := hf 13 _ 72 (by decide) rfl rfl
    obtain rfl := (f13.2.2.2.2.2.2.2.2.2.2.2.2.2.1 rfl).symm
    obtain ⟨v14, e14, f14⟩ := hf 14 _ 73 (by decide) rfl rfl
    obtain rfl := (f14.2.2.2.2.2.2.2.2.2.2.2.2.2.2.1 rfl).symm
    obtain ⟨v15, e15, f15⟩ := hf 15 _ 74 (by decide) rfl rfl
    obtain rfl := (f15.2.2.2.2.2.2.2.2.2.2.2.2.2.2.2.1 rfl).symm
    obtain ⟨v16, e16, f16⟩ := hf 16 _ 75 (by decide) rfl rfl
    obtain rfl := (f16.2.2.2.2.2.2.2.2.2.2.2.2.2.2.2.2.1 rfl).symm
    obtain ⟨v17, e17, f17⟩ := hf 17 _ 76 (by decide) rfl rfl
    obtain rfl := (f17.2.2.2.2.2.2.2.2.2.2.2.2.2.2.2.2.2.1 rfl).symm
    obtain ⟨v18, e18, f18⟩ := hf 18 _ 77 (by decide) rfl rfl
    obtain rfl := (f18.2.2.2.2.2.2.2.2.2.2.2.2.2.2.2.2.2.2.1 rfl).symm
    obtain ⟨v19, e19, f19⟩ := hf 19 _ 78 (by decide) rfl rfl
    obtain rfl := (f19.2.2.2.2.2.2.2.2.2.2.2.2.2.2.2.2.2.2.2.1 rfl).symm
    obtain ⟨v20, e20, f20⟩ := hf 20 _ 79 (by decide) rfl rfl
    obtain rfl := (f20.2.2.2.2.2.2.2.2.2.2.2.2.2.2.2.2.2.2.2.2.1 rfl).symm
    obtain ⟨v21, e21, f21⟩ := hf 21 _ 80 (by decide) rfl rfl
    have g21 := f21.2.2.2.2.2.2.2.2.2.2.2.2.2.2.2.2.2.2.2.2.2.1 rfl
    obtain ⟨v22, e22, f22⟩ := hf 22 _ 81 (by decide) rfl rfl
    obtain rfl := (f22.2.2.2.2.2.2.2.2.2.2.2.2.2.2.2.2.2.2.2.2.2.2.1 rfl).symm
    obtain ⟨v23, e23, f23⟩ := hf 23 _ 82 (by decide) rfl rfl
    obtain rfl := (f23.2.2.2.2.2.2.2.2.2.2.2.2.2.2.2.2.2.2.2.2.2.2.2.1 rfl).symm
    obtain ⟨v24, e24, f24⟩ := hf 24 _ 83 (by decide) rfl rfl
    obtain rfl := (f24.2.2.2.2.2.2.2.2.2.2.2.2.2.2.2.2.2.2.2.2.2.2.2.2.1 rfl).symm
    obtain ⟨v25, e25, f25⟩ := hf 25 _ 84 (by decide) rfl rfl
    obtain rfl := (f25.2.2.2.2.2.2.2.2.2.2.2.2.2.2.2.2.2.2.2.2.2.2.2.2.2.1 rfl).symm
    obtain ⟨v26, e26, f26⟩ := hf 26 _ 85 (by decide) rfl rfl
    obtain rfl := (f26.2.2.2.2.2.2.2.2.2.2.2.2.2.2.2.2.2.2.2.2.2.2.2.2.2.2.1 rfl).symm
    obtain ⟨v27, e27, f27⟩ := hf 27 _ 86 (by decide) rfl rfl
    have g27 := f27.2.2.2.2.2.2.2.2.2.2.2.2.2.2.2.2.2.2.2.2.2.2.2.2.2.2.2.1 rfl
    obtain ⟨v28, e28, f28⟩ := hf 28 _ 87 (by decide) rfl rfl
    obtain rfl := (f28.2.2.2.2.2.2.2.2.2.2.2.2.2.2.2.2.2.2.2.2.2.2.2.2.2.2.2.2.1 rfl).symm
    obtain ⟨v29, e29, f29⟩ := hf 29 _ 88 (by decide) rfl rfl
    have g29 := f29.2.2.2.2.2.2.2.2.2.2.2.2.2.2.2.2.2.2.2.2.2.2.2.2.2.2.2.2.2.1 rfl
    obtain ⟨v30, e30, f30⟩ := hf 30 _ 89 (by decide) rfl rfl
    have g30 := f30.2.2.2.2.2.2.2.2.2.2.2.2.2.2.2.2.2.2.2.2.2.2.2.2.2.2.2.2.2.2.1 rfl
    obtain ⟨v31, e31, f31⟩ := hf 31 _ 90 (by decide) rfl rfl
    have g31 := f31.2.2.2.2.2.2.2.2.2.2.2.2.2.2.2.2.2.2.2.2.2.2.2.2.2.2.2.2.2.2.2.1 rfl
    obtain ⟨v32, e32, f32⟩ := hf 32 _ 91 (by decide) rfl rfl
    have g32 := f32.2.2.2.2.2.2.2.2.2.2.2.2.2.2.2.2.2.2.2.2.2.2.2.2.2.2.2.2.2.2.2.2 rfl
    obtain ⟨sl, rfl, ra, rn, rc, rfl, k9⟩ := g32
    have R3 := Lib.hid (R1.out.on hg); have B3 := Lib.hid (Below.step B1.out hg)
    have z0 := frozen_of_row w' (w.heap.size + 1) 0 _ _ R3.out; have z1 := frozen_of_row w' (w.heap.size + 1) 1 _ _ R3.out; have z2 := frozen_of_row w' (w.heap.size + 1) 2 _ _ R3.out
    obtain ⟨r0, r1, r2⟩ := R3.out.cells
    rw [if_pos (by rfl)]
    rw [hoff.sets [(59, .pointer (some ⟨w.heap.size, 2, none⟩)), (60, .pointer (some ⟨w.heap.size, 2, none⟩)), (61, .int .i64 x.n0), (62, .agg #[.int .i64 1, .string (vName (pickZ (x.n0) 6).toNat), .int .i64 0, .int .i64 0, .string ⟨#[]⟩, .slice none 0 0, .slice none 0 0]), (63, .string (vName (pickZ x.n0 6).toNat)), (64, v5), (65, .pointer (some ⟨w.heap.size, 2, none⟩)), (66, .pointer (some ⟨w.heap.size, 5, none⟩)), (67, .int .i64 x.n3), (68, .int .i64 0), (69, v10), (70, .string ⟨#[43]⟩), (71, .pointer (some ⟨w.heap.size, 2, none⟩)), (72, .pointer (some ⟨w.heap.size, 3, none⟩)), (73, .int .i64 x.n1), (74, .agg #[.int .i64 1, .string (vName (pickZ (x.n1) 6).toNat), .int .i64 0, .int .i64 0, .string ⟨#[]⟩, .slice none 0 0, .slice none 0 0]), (75, .agg #[.int .i64 2, .string ⟨#[]⟩, .int .i64 1, .int .i64 1, .string ⟨#[]⟩, .slice none 0 0, .slice none 0 0]), (76, .pointer (some ⟨w.heap.size, 2, none⟩)), (77, .pointer (some ⟨w.heap.size, 4, none⟩)), (78, .int .i64 x.n2), (79, .agg #[.int .i64 1, .string (vName (pickZ (x.n2) 6).toNat), .int .i64 0, .int .i64 0, .string ⟨#[]⟩, .slice none 0 0, .slice none 0 0]), (80, v21), (81, .pointer (some ⟨w.heap.size, 2, none⟩)), (82, .pointer (some ⟨w.heap.size, 5, none⟩)), (83, .int .i64 x.n3), (84, .int .i64 (x.n3.tdiv 2)), (85, .int .i64 1), (86, v27), (87, .agg #[.int .i64 1, .string (vName (pickZ (x.n2) 6).toNat), .int .i64 0, .int .i64 0, .string ⟨#[]⟩, .slice none 0 0, .slice none 0 0]), (88, v29), (89, v30), (90, v31), (91, .agg #[.int .i64 4, .string (vName (pickZ x.n0 6).toNat), .slice ra rn rc])] (by kernel_rfl) (by intro p hp; simp only [List.mem_cons, List.not_mem_nil, or_false] at hp; rcases hp with rfl | rfl | rfl | rfl | rfl | rfl | rfl | rfl | rfl | rfl | rfl | rfl | rfl | rfl | rfl | rfl | rfl | rfl | rfl | rfl | rfl | rfl | rfl | rfl | rfl | rfl | rfl | rfl | rfl | rfl | rfl | rfl | rfl <;> assumption)]
    clear hoff hf e0 f0 e1 f1 e2 f2 e3 f3 e4 f4 e5 f5 e6 f6 e7 f7 e8 f8 e9 f9 e10 f10 e11 f11 e12 f12 e13 f13 e14 f14 e15 f15 e16 f16 e17 f17 e18 f18 e19 f19 e20 f20 e21 f21 e22 f22 e23 f23 e24 f24 e25 f25 e26 f26 e27 f27 e28 f28 e29 f29 e30 f30 e31 f31 e32 f32
    simp only [List.foldl_cons, List.foldl_nil, List.setIfInBounds_toArray, List.set_cons_zero, List.set_cons_succ]
    have HRL : Hid (RepLi (fun k => (w.heap.size + 2) ≤ k ∧ k < w'.heap.size) w' ⟨4, (vName (pickZ x.n0 6).toNat), [sumZ (vTm (pickZ x.n1 6).toNat) (vTm (pickZ x.n2 6).toNat) ⟨#[43]⟩]⟩ (.int .i64 4) (.string ((vName (pickZ x.n0 6).toNat))) (.slice ra rn rc)) := ⟨rfl, rfl, small64 (show (0 : Int) ≤ 4 ∧ (4 : Int) ≤ 100 by decide), vName_size _, k9⟩
    clear k9
    go_simp
    clear r0 r1 r2 z0 z1 z2
    have R4 := boxLi_set R3.out (.int .i64 4) (.string ((vName (pickZ x.n0 6).toNat))) (.slice ra rn rc)
    have B4 : Below w.heap.size w (((w'.setCell ⟨w.heap.size + 1, 0, none⟩ (.int .i64 4)).setCell ⟨w.heap.size + 1, 1, none⟩ (.string ((vName (pickZ x.n0 6).toNat)))).setCell ⟨w.heap.size + 1, 2, none⟩ (.slice ra rn rc)) := ((B3.out.setCell (p := ⟨w.heap.size + 1, 0, none⟩) (by simp) _).setCell (p := ⟨w.heap.size + 1, 1, none⟩) (by simp) _).setCell (p := ⟨w.heap.size + 1, 2, none⟩) (by simp) _
    have HRM : RepLi (fun k => w.heap.size ≤ k ∧ k < (((w'.setCell ⟨w.heap.size + 1, 0, none⟩ (.int .i64 4)).setCell ⟨w.heap.size + 1, 1, none⟩ (.string ((vName (pickZ x.n0 6).toNat)))).setCell ⟨w.heap.size + 1, 2, none⟩ (.slice ra rn rc)).heap.size) (((w'.setCell ⟨w.heap.size + 1, 0, none⟩ (.int .i64 4)).setCell ⟨w.heap.size + 1, 1, none⟩ (.string ((vName (pickZ x.n0 6).toNat)))).setCell ⟨w.heap.size + 1, 2, none⟩ (.slice ra rn rc)) ⟨4, (vName (pickZ x.n0 6).toNat), [sumZ (vTm (pickZ x.n1 6).toNat) (vTm (pickZ x.n2 6).toNat) ⟨#[43]⟩]⟩ (.int .i64 4) (.string ((vName (pickZ x.n0 6).toNat))) (.slice ra rn rc) := RepLi.on (fun k hk => ⟨by omega, by simp [World.setCell]; exact hk.2⟩) (fun k hk => by rw [Below.heap_setCell _ _ _ _ (show k ≠ w.heap.size + 1 by omega), Below.heap_setCell _ _ _ _ (show k ≠ w.heap.size + 1 by omega), Below.heap_setCell _ _ _ _ (show k ≠ w.heap.size + 1 by omega)]) HRL.out
    have HB4 := Lib.hid B4; have HR4 := Lib.hid HRM
    clear B4 HRM HRL hg
    generalize (((w'.setCell ⟨w.heap.size + 1, 0, none⟩ (.int .i64 4)).setCell ⟨w.heap.size + 1, 1, none⟩ (.string ((vName (pickZ x.n0 6).toNat)))).setCell ⟨w.heap.size + 1, 2, none⟩ (.slice ra rn rc)) = w9 at *
    obtain ⟨r0, r1, r2⟩ := R4.cells
    go_wp2_with fail
    rw [HLZ.out]
    exact bodyPost_ret (v := .agg #[.int .i64 4, .string ((vName (pickZ x.n0 6).toNat)), .slice ra rn rc]) (by simp [results, Try.results36, go_sem, r0, r1, r2]) rfl ⟨_, rfl, HR4.out, HB4.out⟩

end Go.Proofs.Ytkaiihoijcpldaa
