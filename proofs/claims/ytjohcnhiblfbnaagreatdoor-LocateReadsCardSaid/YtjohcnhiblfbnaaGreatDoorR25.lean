/-
  SixLitSet
-/
import Derived.Test.YtjohcnhiblfbnaaGreatDoorR05
import Derived.Test.YtjohcnhiblfbnaaGreatDoorR07
namespace Go.Proofs.YtjohcnhiblfbnaaGreatDoor
open Go.RowKit
theorem str_ptrs {n3 : Nat} {sg : ByteArray} (K : (n3 = 0 ∧ sg = ⟨#[43]⟩) ∨ (n3 = 1 ∧ sg = ⟨#[45]⟩)) {w : World} {b : Nat} (h : w.heap[b]? = some (.cells #[.string ⟨#[43]⟩, .string ⟨#[45]⟩] 9 (0, 0))) : StrPtr n3 sg w (.pointer (some ⟨b, n3, none⟩)) := by
 rcases K with ⟨rfl, rfl⟩ | ⟨rfl, rfl⟩
 ·exact str_ptr0 h
 ·exact str_ptr1 h
theorem lt_two {n3 : Nat} {sg : ByteArray} (K : (n3 = 0 ∧ sg = ⟨#[43]⟩) ∨ (n3 = 1 ∧ sg = ⟨#[45]⟩)) : (0 : Int) ≤ (n3 : Int) ∧ (n3 : Int) < 2 ∧ n3 < 2 := by omega
theorem sg_size {n3 : Nat} {sg : ByteArray} (K : (n3 = 0 ∧ sg = ⟨#[43]⟩) ∨ (n3 = 1 ∧ sg = ⟨#[45]⟩)) : sg.size ≤ maxLen := by
 rcases K with ⟨rfl, rfl⟩ | ⟨rfl, rfl⟩ <;> decide
theorem two_ptrs {n4 : Nat} {nm : ByteArray} {d0 d1 d2 d3 d4 d5 d6 : Value} (K : (n4 = 0 ∧ #[d0, d1, d2, d3, d4, d5, d6] = #[.int .i64 2, .string ⟨#[]⟩, .int .i64 1, .int .i64 1, .string ⟨#[]⟩, .slice none 0 0, .slice none 0 0]) ∨ (n4 = 1 ∧ #[d0, d1, d2, d3, d4, d5, d6] = #[.int .i64 1, .string nm, .int .i64 0, .int .i64 0, .string ⟨#[]⟩, .slice none 0 0, .slice none 0 0])) {w : World} {b : Nat} (h : w.heap[b]? = some (.cells #[.int .i64 2, .string ⟨#[]⟩, .int .i64 1, .int .i64 1, .string ⟨#[]⟩, .slice none 0 0, .slice none 0 0, .int .i64 1, .string nm, .int .i64 0, .int .i64 0, .string ⟨#[]⟩, .slice none 0 0, .slice none 0 0] 52 (0, 0))) : TmPtr (n4 * 7) d0 d1 d2 d3 d4 d5 d6 w (.pointer (some ⟨b, n4 * 7, none⟩)) := by
 rcases K with ⟨rfl, K⟩ | ⟨rfl, K⟩
 ·simp only [Array.mk.injEq, List.cons.injEq, and_true] at K
  obtain ⟨rfl, rfl, rfl, rfl, rfl, rfl, rfl⟩ := K
  exact two_ptr0 h
 ·simp only [Array.mk.injEq, List.cons.injEq, and_true] at K
  obtain ⟨rfl, rfl, rfl, rfl, rfl, rfl, rfl⟩ := K
  exact two_ptr1 h
theorem lt_two4 {n4 : Nat} {nm : ByteArray} {d0 d1 d2 d3 d4 d5 d6 : Value} (K : (n4 = 0 ∧ #[d0, d1, d2, d3, d4, d5, d6] = #[.int .i64 2, .string ⟨#[]⟩, .int .i64 1, .int .i64 1, .string ⟨#[]⟩, .slice none 0 0, .slice none 0 0]) ∨ (n4 = 1 ∧ #[d0, d1, d2, d3, d4, d5, d6] = #[.int .i64 1, .string nm, .int .i64 0, .int .i64 0, .string ⟨#[]⟩, .slice none 0 0, .slice none 0 0])) : (0 : Int) ≤ (n4 : Int) ∧ (n4 : Int) < 2 ∧ n4 < 2 := by
 rcases K with ⟨rfl, _⟩ | ⟨rfl, _⟩ <;> omega
set_option maxRecDepth 100000 in
set_option maxHeartbeats 20000000 in
theorem literal_set (x : Rw) (w : World) (hx : RwOk x) (n3 n4 : Nat) (sg : ByteArray) (yb : Tm) (d0 d1 d2 d3 d4 d5 d6 : Value) (h7 : pickZ x.kind 8 = 7) (h3 : pickZ x.n3 2 = (n3 : Int)) (h4 : pickZ (x.n3.tdiv 2) 2 = (n4 : Int)) (k3 : (n3 = 0 ∧ sg = ⟨#[43]⟩) ∨ (n3 = 1 ∧ sg = ⟨#[45]⟩)) (k4 : (n4 = 0 ∧ #[d0, d1, d2, d3, d4, d5, d6] = #[.int .i64 2, .string ⟨#[]⟩, .int .i64 1, .int .i64 1, .string ⟨#[]⟩, .slice none 0 0, .slice none 0 0]) ∨ (n4 = 1 ∧ #[d0, d1, d2, d3, d4, d5, d6] = #[.int .i64 1, .string (vName (pickZ (x.n2) 6).toNat), .int .i64 0, .int .i64 0, .string ⟨#[]⟩, .slice none 0 0, .slice none 0 0]))
  (hyb : ∀ (S : Nat → Prop) (w : World), RepM S w yb d0 d1 d2 d3 d4 d5 d6) (hz : litZ x = ⟨4, vName (pickZ x.n0 6).toNat, [sumZ (vZ x.n1) yb sg]⟩) : Calls Tryz.prog 54 #[rwV x] w (MadeLi (litZ x) w) := by
 have HX := Lib.hid hx
 rw [rwV]
 go_enter Tryz.func54, Tryz.ntmps54
 go_wp2_with fail
 have x1 := boxRw_new w x; have b1 := below_alloc w (.cells #[.int .i64 x.kind, .int .i64 x.name, .int .i64 x.n0, .int .i64 x.n1, .int .i64 x.n2, .int .i64 x.n3] 74)
 have s1 := World.size_alloc w (.cells #[.int .i64 x.kind, .int .i64 x.name, .int .i64 x.n0, .int .i64 x.n1, .int .i64 x.n2, .int .i64 x.n3] 74)
 generalize w.alloc (.cells #[.int .i64 x.kind, .int .i64 x.name, .int .i64 x.n0, .int .i64 x.n1, .int .i64 x.n2, .int .i64 x.n3] 74) = wa at *
 have r2 := boxLi_new wa (.int .i64 0) (.string ⟨#[]⟩) (.slice none 0 0); have b2 := below_alloc wa (.cells #[.int .i64 0, .string ⟨#[]⟩, .slice none 0 0] 46)
 have s2 := World.size_alloc wa (.cells #[.int .i64 0, .string ⟨#[]⟩, .slice none 0 0] 46)
 generalize wa.alloc (.cells #[.int .i64 0, .string ⟨#[]⟩, .slice none 0 0] 46) = wb at *
 rw [s1] at r2
 have X0 := Lib.hid (x1.on b2); have R0 := Lib.hid r2; have B0 := Lib.hid (Below.step b1 b2)
 have HSB : Hid (w.heap.size + 2 ≤ wb.heap.size) := by show _ ≤ _; omega
 clear x1 b1 s1 r2 b2 s2
 obtain ⟨p0, p1, p2, p3, p4, p5⟩ := X0.out.cells
 go_wp2_with fail
 refine (atom_any x wb HX.out).mono ?_
 rintro e w1 ⟨lv, rfl, hm, hb⟩
 have X1 := Lib.hid (X0.out.on hb); have R1 := Lib.hid (R0.out.on hb); have B1 := Lib.hid (Below.step B0.out hb)
 have HS1 : Hid (w.heap.size + 2 ≤ w1.heap.size) := Nat.le_trans HSB.out hb.size
 have HM1 := Lib.hid hm
 obtain ⟨la, lc, rfl⟩ := OwnK.form hm
 clear hm hb p0 p1 p2 p3 p4 p5 X0 R0 B0
 obtain ⟨p0, p1, p2, p3, p4, p5⟩ := X1.out.cells
 go_wp2_with fail
 refine (pick6_any x.kind 8 _ HX.out.1 (by omega) (by omega)).mono ?_
 rintro e w' ⟨rfl, rfl⟩
 have HLZ := Lib.hid hz
 have HM3 := Lib.hid h3; have HM4 := Lib.hid h4; have K3 := Lib.hid k3; have K4 := Lib.hid k4; have HYB := Lib.hid hyb
 rw [h7]
 clear h3 h4 h7 hx p0 p1 p2 p3 p4 p5 k3 k4 hyb hz
 obtain ⟨p0, p1, p2, p3, p4, p5⟩ := X1.out.cells
 go_wp2_with fail
 clear p0 p1 p2 p3 p4 p5
 refine wp_region_factsL (by rfl) 92 (by rfl) (by kernel_rfl) (FA [.e (.pointer (some ⟨w.heap.size, 2, none⟩)), .e (.pointer (some ⟨w.heap.size, 2, none⟩)), .e (.int .i64 x.n0), .e (.agg #[.int .i64 1, .string (vName (pickZ (x.n0) 6).toNat), .int .i64 0, .int .i64 0, .string ⟨#[]⟩, .slice none 0 0, .slice none 0 0]), .e (.string (vName (pickZ x.n0 6).toNat)), .p (StrTwo), .e (.pointer (some ⟨w.heap.size, 2, none⟩)), .e (.pointer (some ⟨w.heap.size, 5, none⟩)), .e (.int .i64 x.n3), .e (.int .i64 (n3 : Int)), .p (StrPtr n3 sg), .e (.string sg), .e (.pointer (some ⟨w.heap.size, 2, none⟩)), .e (.pointer (some ⟨w.heap.size, 3, none⟩)), .e (.int .i64 x.n1), .e (.agg #[.int .i64 1, .string (vName (pickZ (x.n1) 6).toNat), .int .i64 0, .int .i64 0, .string ⟨#[]⟩, .slice none 0 0, .slice none 0 0]), .e (.agg #[.int .i64 2, .string ⟨#[]⟩, .int .i64 1, .int .i64 1, .string ⟨#[]⟩, .slice none 0 0, .slice none 0 0]), .e (.pointer (some ⟨w.heap.size, 2, none⟩)), .e (.pointer (some ⟨w.heap.size, 4, none⟩)), .e (.int .i64 x.n2), .e (.agg #[.int .i64 1, .string (vName (pickZ (x.n2) 6).toNat), .int .i64 0, .int .i64 0, .string ⟨#[]⟩, .slice none 0 0, .slice none 0 0]), .p (TwoAt #[.int .i64 2, .string ⟨#[]⟩, .int .i64 1, .int .i64 1, .string ⟨#[]⟩, .slice none 0 0, .slice none 0 0, .int .i64 1, .string (vName (pickZ (x.n2) 6).toNat), .int .i64 0, .int .i64 0, .string ⟨#[]⟩, .slice none 0 0, .slice none 0 0]), .e (.pointer (some ⟨w.heap.size, 2, none⟩)), .e (.pointer (some ⟨w.heap.size, 5, none⟩)), .e (.int .i64 x.n3), .e (.int .i64 (x.n3.tdiv 2)), .e (.int .i64 (n4 : Int)), .p (TmPtr (n4 * 7) (d0) (d1) (d2) (d3) (d4) (d5) (d6)), .e (.agg #[d0, d1, d2, d3, d4, d5, d6]), .p (RowSix (w.heap.size + 2) [vTm (pickZ x.n1 6).toNat, yb]), .p (MadeSix (w.heap.size + 2) (sumZ (vTm (pickZ x.n1 6).toNat) yb sg) sg), .p (RowSix (w.heap.size + 2) [sumZ (vTm (pickZ x.n1 6).toNat) yb sg]), .p fun wz vz => ∃ sl, vz = .agg #[.int .i64 4, .string (vName (pickZ x.n0 6).toNat), sl] ∧ RowSix (w.heap.size + 2) [sumZ (vTm (pickZ x.n1 6).toNat) yb sg] wz sl]) (fun w' => Below w1.heap.size w1 w') (Below.drew (Below.refl _ _)) ⟨?s0, ?s1, ?s2, ?s3, ?s4, ?s5, ?s6, ?s7, ?s8, ?s9, ?s10, ?s11, ?s12, ?s13, ?s14, ?s15, ?s16, ?s17, ?s18, ?s19, ?s20, ?s21, ?s22, ?s23, ?s24, ?s25, ?s26, ?s27, ?s28, ?s29, ?s30, ?s31, ?s32, trivial⟩ (by rfl) ?last (by decide)
 case s0 =>
  intro a w' hoff hg hdep K hK
  have h1 := off_at hoff 1 (v := .pointer (some ⟨w.heap.size, 0, none⟩)) (by kernel_rfl) rfl
  rw [if_pos (by rfl)]
  go_simp
  exact hK.out _ _ hg rfl (fun _ _ h => h)
 case s1 =>
  intro a w' hoff hg hdep K hK
  obtain ⟨_, e0, rfl⟩ := hdep 0 _ 59 (by kernel_rfl) rfl rfl
  rw [if_pos (by rfl)]
  go_simp
  exact hK.out _ _ hg rfl (fun _ _ h => h)
 case s2 =>
  intro a w' hoff hg hdep K hK
  obtain ⟨_, e1, rfl⟩ := hdep 1 _ 60 (by kernel_rfl) rfl rfl
  rw [if_pos (by rfl)]
  obtain ⟨p0, p1, p2, p3, p4, p5⟩ := (X1.out.on hg).cells
  go_simp
  exact hK.out _ _ hg rfl (fun _ _ h => h)
 case s3 =>
  intro a w' hoff hg hdep K hK
  obtain ⟨_, e2, rfl⟩ := hdep 2 _ 61 (by kernel_rfl) rfl rfl
  rw [if_pos (by rfl)]
  go_simp
  refine (v_any (x.n0) w' HX.out.2.2.1).mono ?_
  rintro e w2' ⟨rfl, hb⟩
  exact hK.out _ _ (Below.step hg hb) rfl (fSt ⟨fun _ h => StrTwo.stay hb h, fun _ h => StrPtr.stay hb h, fun _ h => TwoAt.stay hb h, fun _ h => TmPtr.stay hb h, fun _ h => RowSix.stay hb h, fun _ h => MadeSix.stay hb h, fun _ h => RowSix.stay hb h, fun _ h => h.elim fun sl hs => ⟨sl, hs.1, RowSix.stay hb hs.2⟩, trivial⟩)
 case s4 =>
  intro a w' hoff hg hdep K hK
  obtain ⟨_, e3, rfl⟩ := hdep 3 _ 62 (by kernel_rfl) rfl rfl
  rw [if_pos (by rfl)]
  have hf : Sem.run Tryz.prog (Instr.field 52 (.agg #[.int .i64 1, .string (vName (pickZ (x.n0) 6).toNat), .int .i64 0, .int .i64 0, .string ⟨#[]⟩, .slice none 0 0, .slice none 0 0]) 1) w' = .ok (.string (vName (pickZ x.n0 6).toNat)) w' := by kernel_rfl
  go_simp
  exact hK.out _ _ hg rfl (fun _ _ h => h)
 case s5 =>
  intro a w' hoff hg hdep K hK
  rw [if_pos (by rfl)]
  go_simp
  have hb := below_alloc w' (.cells #[.string ⟨#[43]⟩, .string ⟨#[45]⟩] 9)
  have hp : StrTwo (w'.alloc (.cells #[.string ⟨#[43]⟩, .string ⟨#[45]⟩] 9)) (.slice (some ⟨w'.heap.size, 0, none⟩) 2 2) := ⟨_, rfl, alloc_new' _ _⟩
  exact hK.out _ _ (Below.step hg hb) hp (fSt ⟨fun _ h => StrTwo.stay hb h, fun _ h => StrPtr.stay hb h, fun _ h => TwoAt.stay hb h, fun _ h => TmPtr.stay hb h, fun _ h => RowSix.stay hb h, fun _ h => MadeSix.stay hb h, fun _ h => RowSix.stay hb h, fun _ h => h.elim fun sl hs => ⟨sl, hs.1, RowSix.stay hb hs.2⟩, trivial⟩)
 case s6 =>
  intro a w' hoff hg hdep K hK
  have h1 := off_at hoff 1 (v := .pointer (some ⟨w.heap.size, 0, none⟩)) (by kernel_rfl) rfl
  rw [if_pos (by rfl)]
  go_simp
  exact hK.out _ _ hg rfl (fun _ _ h => h)
 case s7 =>
  intro a w' hoff hg hdep K hK
  obtain ⟨_, e6, rfl⟩ := hdep 6 _ 65 (by kernel_rfl) rfl rfl
  rw [if_pos (by rfl)]
  go_simp
  exact hK.out _ _ hg rfl (fun _ _ h => h)
 case s8 =>
  intro a w' hoff hg hdep K hK
  obtain ⟨_, e7, rfl⟩ := hdep 7 _ 66 (by kernel_rfl) rfl rfl
  rw [if_pos (by rfl)]
  obtain ⟨p0, p1, p2, p3, p4, p5⟩ := (X1.out.on hg).cells
  go_simp
  exact hK.out _ _ hg rfl (fun _ _ h => h)
 case s9 =>
  intro a w' hoff hg hdep K hK
  obtain ⟨_, e8, rfl⟩ := hdep 8 _ 67 (by kernel_rfl) rfl rfl
  rw [if_pos (by rfl)]
  go_simp
  refine (pick6_any (x.n3) 2 w' HX.out.2.2.2.2.2 (by omega) (by omega)).mono ?_
  rintro e w2' ⟨rfl, rfl⟩
  rw [HM3.out]
  have hb := Below.refl w'.heap.size w'
  exact hK.out _ _ (Below.step hg hb) rfl (fSt ⟨fun _ h => StrTwo.stay hb h, fun _ h => StrPtr.stay hb h, fun _ h => TwoAt.stay hb h, fun _ h => TmPtr.stay hb h, fun _ h => RowSix.stay hb h, fun _ h => MadeSix.stay hb h, fun _ h => RowSix.stay hb h, fun _ h => h.elim fun sl hs => ⟨sl, hs.1, RowSix.stay hb hs.2⟩, trivial⟩)
 case s10 =>
  intro a w' hoff hg hdep K hK
  obtain ⟨v5, e5, (g5 : StrTwo w' v5)⟩ := hdep 5 _ 64 (by kernel_rfl) rfl rfl
  obtain ⟨_, e9, rfl⟩ := hdep 9 _ 68 (by kernel_rfl) rfl rfl
  obtain ⟨b64, rfl, k64⟩ := g5
  have hp := str_ptrs K3.out k64
  obtain ⟨j0, j1, j2⟩ := lt_two K3.out
  rw [if_pos (by rfl)]
  go_simp
  exact hK.out _ _ hg hp (fun _ _ h => h)
 case s11 =>
  intro a w' hoff hg hdep K hK
  obtain ⟨v10, e10, (g10 : StrPtr n3 sg w' v10)⟩ := hdep 10 _ 69 (by kernel_rfl) rfl rfl
  obtain ⟨b69, rfl, l69, t0⟩ := g10
  rw [if_pos (by rfl)]
  obtain ⟨p0, p1, p2, p3, p4, p5⟩ := (X1.out.on hg).cells
  go_simp
  exact hK.out _ _ hg rfl (fun _ _ h => h)
 case s12 =>
  intro a w' hoff hg hdep K hK
  have h1 := off_at hoff 1 (v := .pointer (some ⟨w.heap.size, 0, none⟩)) (by kernel_rfl) rfl
  rw [if_pos (by rfl)]
  go_simp
  exact hK.out _ _ hg rfl (fun _ _ h => h)
 case s13 =>
  intro a w' hoff hg hdep K hK
  obtain ⟨_, e12, rfl⟩ := hdep 12 _ 71 (by kernel_rfl) rfl rfl
  rw [if_pos (by rfl)]
  go_simp
  exact hK.out _ _ hg rfl (fun _ _ h => h)
 case s14 =>
  intro a w' hoff hg hdep K hK
  obtain ⟨_, e13, rfl⟩ := hdep 13 _ 72 (by kernel_rfl) rfl rfl
  rw [if_pos (by rfl)]
  obtain ⟨p0, p1, p2, p3, p4, p5⟩ := (X1.out.on hg).cells
  go_simp
  exact hK.out _ _ hg rfl (fun _ _ h => h)
 case s15 =>
  intro a w' hoff hg hdep K hK
  obtain ⟨_, e14, rfl⟩ := hdep 14 _ 73 (by kernel_rfl) rfl rfl
  rw [if_pos (by rfl)]
  go_simp
  refine (v_any (x.n1) w' HX.out.2.2.2.1).mono ?_
  rintro e w2' ⟨rfl, hb⟩
  exact hK.out _ _ (Below.step hg hb) rfl (fSt ⟨fun _ h => StrTwo.stay hb h, fun _ h => StrPtr.stay hb h, fun _ h => TwoAt.stay hb h, fun _ h => TmPtr.stay hb h, fun _ h => RowSix.stay hb h, fun _ h => MadeSix.stay hb h, fun _ h => RowSix.stay hb h, fun _ h => h.elim fun sl hs => ⟨sl, hs.1, RowSix.stay hb hs.2⟩, trivial⟩)
 case s16 =>
  intro a w' hoff hg hdep K hK
  rw [if_pos (by rfl)]
  go_simp
  refine (num_any (1) w').mono ?_
  rintro e w2' ⟨rfl, hb⟩
  exact hK.out _ _ (Below.step hg hb) rfl (fSt ⟨fun _ h => StrTwo.stay hb h, fun _ h => StrPtr.stay hb h, fun _ h => TwoAt.stay hb h, fun _ h => TmPtr.stay hb h, fun _ h => RowSix.stay hb h, fun _ h => MadeSix.stay hb h, fun _ h => RowSix.stay hb h, fun _ h => h.elim fun sl hs => ⟨sl, hs.1, RowSix.stay hb hs.2⟩, trivial⟩)
 case s17 =>
  intro a w' hoff hg hdep K hK
  have h1 := off_at hoff 1 (v := .pointer (some ⟨w.heap.size, 0, none⟩)) (by kernel_rfl) rfl
  rw [if_pos (by rfl)]
  go_simp
  exact hK.out _ _ hg rfl (fun _ _ h => h)
 case s18 =>
  intro a w' hoff hg hdep K hK
  obtain ⟨_, e17, rfl⟩ := hdep 17 _ 76 (by kernel_rfl) rfl rfl
  rw [if_pos (by rfl)]
  go_simp
  exact hK.out _ _ hg rfl (fun _ _ h => h)
 case s19 =>
  intro a w' hoff hg hdep K hK
  obtain ⟨_, e18, rfl⟩ := hdep 18 _ 77 (by kernel_rfl) rfl rfl
  rw [if_pos (by rfl)]
  obtain ⟨p0, p1, p2, p3, p4, p5⟩ := (X1.out.on hg).cells
  go_simp
  exact hK.out _ _ hg rfl (fun _ _ h => h)
 case s20 =>
  intro a w' hoff hg hdep K hK
  obtain ⟨_, e19, rfl⟩ := hdep 19 _ 78 (by kernel_rfl) rfl rfl
  rw [if_pos (by rfl)]
  go_simp
  refine (v_any (x.n2) w' HX.out.2.2.2.2.1).mono ?_
  rintro e w2' ⟨rfl, hb⟩
  exact hK.out _ _ (Below.step hg hb) rfl (fSt ⟨fun _ h => StrTwo.stay hb h, fun _ h => StrPtr.stay hb h, fun _ h => TwoAt.stay hb h, fun _ h => TmPtr.stay hb h, fun _ h => RowSix.stay hb h, fun _ h => MadeSix.stay hb h, fun _ h => RowSix.stay hb h, fun _ h => h.elim fun sl hs => ⟨sl, hs.1, RowSix.stay hb hs.2⟩, trivial⟩)
 case s21 =>
  intro a w' hoff hg hdep K hK
  obtain ⟨_, e16, rfl⟩ := hdep 16 _ 75 (by kernel_rfl) rfl rfl
  obtain ⟨_, e20, rfl⟩ := hdep 20 _ 79 (by kernel_rfl) rfl rfl
  rw [if_pos (by rfl)]
  go_simp
  have hb := below_alloc w' (.cells #[.int .i64 2, .string ⟨#[]⟩, .int .i64 1, .int .i64 1, .string ⟨#[]⟩, .slice none 0 0, .slice none 0 0, .int .i64 1, .string (vName (pickZ (x.n2) 6).toNat), .int .i64 0, .int .i64 0, .string ⟨#[]⟩, .slice none 0 0, .slice none 0 0] 52)
  have hp : TwoAt #[.int .i64 2, .string ⟨#[]⟩, .int .i64 1, .int .i64 1, .string ⟨#[]⟩, .slice none 0 0, .slice none 0 0, .int .i64 1, .string (vName (pickZ (x.n2) 6).toNat), .int .i64 0, .int .i64 0, .string ⟨#[]⟩, .slice none 0 0, .slice none 0 0] (w'.alloc (.cells #[.int .i64 2, .string ⟨#[]⟩, .int .i64 1, .int .i64 1, .string ⟨#[]⟩, .slice none 0 0, .slice none 0 0, .int .i64 1, .string (vName (pickZ (x.n2) 6).toNat), .int .i64 0, .int .i64 0, .string ⟨#[]⟩, .slice none 0 0, .slice none 0 0] 52)) (.slice (some ⟨w'.heap.size, 0, none⟩) 2 2) := ⟨_, rfl, alloc_new' _ _⟩
  exact hK.out _ _ (Below.step hg hb) hp (fSt ⟨fun _ h => StrTwo.stay hb h, fun _ h => StrPtr.stay hb h, fun _ h => TwoAt.stay hb h, fun _ h => TmPtr.stay hb h, fun _ h => RowSix.stay hb h, fun _ h => MadeSix.stay hb h, fun _ h => RowSix.stay hb h, fun _ h => h.elim fun sl hs => ⟨sl, hs.1, RowSix.stay hb hs.2⟩, trivial⟩)
 case s22 =>
  intro a w' hoff hg hdep K hK
  have h1 := off_at hoff 1 (v := .pointer (some ⟨w.heap.size, 0, none⟩)) (by kernel_rfl) rfl
  rw [if_pos (by rfl)]
  go_simp
  exact hK.out _ _ hg rfl (fun _ _ h => h)
 case s23 =>
  intro a w' hoff hg hdep K hK
  obtain ⟨_, e22, rfl⟩ := hdep 22 _ 81 (by kernel_rfl) rfl rfl
  rw [if_pos (by rfl)]
  go_simp
  exact hK.out _ _ hg rfl (fun _ _ h => h)
 case s24 =>
  intro a w' hoff hg hdep K hK
  obtain ⟨_, e23, rfl⟩ := hdep 23 _ 82 (by kernel_rfl) rfl rfl
  rw [if_pos (by rfl)]
  obtain ⟨p0, p1, p2, p3, p4, p5⟩ := (X1.out.on hg).cells
  go_simp
  exact hK.out _ _ hg rfl (fun _ _ h => h)
 case s25 =>
  intro a w' hoff hg hdep K hK
  obtain ⟨_, e24, rfl⟩ := hdep 24 _ 83 (by kernel_rfl) rfl rfl
  rw [if_pos (by rfl)]
  have hw1 : wrap64 (x.n3.tdiv 2) = x.n3.tdiv 2 := by obtain ⟨a1, a2⟩ := (tdiv_i64 HX.out.2.2.2.2.2 2 (by omega)); unfold wrap64; omega
  have hw2 : IntKind.i64.wrap (x.n3.tdiv 2) = x.n3.tdiv 2 := by obtain ⟨a1, a2⟩ := (tdiv_i64 HX.out.2.2.2.2.2 2 (by omega)); rw [IntKind.wrap_i64]; omega
  go_simp
  exact hK.out _ _ hg rfl (fun _ _ h => h)
 case s26 =>
  intro a w' hoff hg hdep K hK
  obtain ⟨_, e25, rfl⟩ := hdep 25 _ 84 (by kernel_rfl) rfl rfl
  rw [if_pos (by rfl)]
  go_simp
  refine (pick6_any (x.n3.tdiv 2) 2 w' (tdiv_i64 HX.out.2.2.2.2.2 2 (by omega)) (by omega) (by omega)).mono ?_
  rintro e w2' ⟨rfl, rfl⟩
  rw [HM4.out]
  have hb := Below.refl w'.heap.size w'
  exact hK.out _ _ (Below.step hg hb) rfl (fSt ⟨fun _ h => StrTwo.stay hb h, fun _ h => StrPtr.stay hb h, fun _ h => TwoAt.stay hb h, fun _ h => TmPtr.stay hb h, fun _ h => RowSix.stay hb h, fun _ h => MadeSix.stay hb h, fun _ h => RowSix.stay hb h, fun _ h => h.elim fun sl hs => ⟨sl, hs.1, RowSix.stay hb hs.2⟩, trivial⟩)
 case s27 =>
  intro a w' hoff hg hdep K hK
  obtain ⟨v21, e21, (g21 : TwoAt #[.int .i64 2, .string ⟨#[]⟩, .int .i64 1, .int .i64 1, .string ⟨#[]⟩, .slice none 0 0, .slice none 0 0, .int .i64 1, .string (vName (pickZ (x.n2) 6).toNat), .int .i64 0, .int .i64 0, .string ⟨#[]⟩, .slice none 0 0, .slice none 0 0] w' v21)⟩ := hdep 21 _ 80 (by kernel_rfl) rfl rfl
  obtain ⟨_, e26, rfl⟩ := hdep 26 _ 85 (by kernel_rfl) rfl rfl
  obtain ⟨b80, rfl, k80⟩ := g21
  have hp := two_ptrs K4.out k80
  obtain ⟨j0, j1, j2⟩ := lt_two4 K4.out
  rw [if_pos (by rfl)]
  go_simp
  exact hK.out _ _ hg hp (fun _ _ h => h)
 case s28 =>
  intro a w' hoff hg hdep K hK
  obtain ⟨v27, e27, (g27 : TmPtr (n4 * 7) (d0) (d1) (d2) (d3) (d4) (d5) (d6) w' v27)⟩ := hdep 27 _ 86 (by kernel_rfl) rfl rfl
  obtain ⟨b86, rfl, l86, t0, t1, t2, t3, t4, t5, t6⟩ := g27
  rw [if_pos (by rfl)]
  obtain ⟨p0, p1, p2, p3, p4, p5⟩ := (X1.out.on hg).cells
  go_simp
  exact hK.out _ _ hg rfl (fun _ _ h => h)
 case s29 =>
  intro a w' hoff hg hdep K hK
  obtain ⟨_, e15, rfl⟩ := hdep 15 _ 74 (by kernel_rfl) rfl rfl
  obtain ⟨_, e28, rfl⟩ := hdep 28 _ 87 (by kernel_rfl) rfl rfl
  rw [if_pos (by rfl)]
  go_simp
  have hb := below_alloc w' (.cells #[.int .i64 1, .string (vName (pickZ (x.n1) 6).toNat), .int .i64 0, .int .i64 0, .string ⟨#[]⟩, .slice none 0 0, .slice none 0 0, d0, d1, d2, d3, d4, d5, d6] 52)
  have hp := row_two (B := (w.heap.size + 2)) (w := w') (y := vTm (pickZ x.n1 6).toNat) (z := yb) (Nat.le_trans HS1.out hg.size) (vTm_rep _ _ _) (HYB.out _ _)
  exact hK.out _ _ (Below.step hg hb) hp (fSt ⟨fun _ h => StrTwo.stay hb h, fun _ h => StrPtr.stay hb h, fun _ h => TwoAt.stay hb h, fun _ h => TmPtr.stay hb h, fun _ h => RowSix.stay hb h, fun _ h => MadeSix.stay hb h, fun _ h => RowSix.stay hb h, fun _ h => h.elim fun sl hs => ⟨sl, hs.1, RowSix.stay hb hs.2⟩, trivial⟩)
 case s30 =>
  intro a w' hoff hg hdep K hK
  obtain ⟨_, e11, rfl⟩ := hdep 11 _ 70 (by kernel_rfl) rfl rfl
  obtain ⟨v29, e29, (g29 : RowSix (w.heap.size + 2) [vTm (pickZ x.n1 6).toNat, yb] w' v29)⟩ := hdep 29 _ 88 (by kernel_rfl) rfl rfl
  obtain ⟨ra, rn, rc, rfl, k88⟩ := g29
  have hp := made_sum (s := sg) (sg_size K3.out) k88
  rw [if_pos (by rfl)]
  go_simp
  exact hK.out _ _ hg hp (fun _ _ h => h)
 case s31 =>
  intro a w' hoff hg hdep K hK
  obtain ⟨v30, e30, (g30 : MadeSix (w.heap.size + 2) (sumZ (vTm (pickZ x.n1 6).toNat) yb sg) sg w' v30)⟩ := hdep 30 _ 89 (by kernel_rfl) rfl rfl
  obtain ⟨k6, rfl, k89⟩ := g30
  rw [if_pos (by rfl)]
  go_simp
  have hb := below_alloc w' (.cells #[.int .i64 4, .string sg, .int .i64 0, .int .i64 0, .string ⟨#[]⟩, .slice none 0 0, k6] 52)
  have hp := row_one (B := (w.heap.size + 2)) (w := w') (Nat.le_trans HS1.out hg.size) k89
  exact hK.out _ _ (Below.step hg hb) hp (fSt ⟨fun _ h => StrTwo.stay hb h, fun _ h => StrPtr.stay hb h, fun _ h => TwoAt.stay hb h, fun _ h => TmPtr.stay hb h, fun _ h => RowSix.stay hb h, fun _ h => MadeSix.stay hb h, fun _ h => RowSix.stay hb h, fun _ h => h.elim fun sl hs => ⟨sl, hs.1, RowSix.stay hb hs.2⟩, trivial⟩)
 case s32 =>
  intro a w' hoff hg hdep K hK
  obtain ⟨_, e4, rfl⟩ := hdep 4 _ 63 (by kernel_rfl) rfl rfl
  obtain ⟨v31, e31, (g31 : RowSix (w.heap.size + 2) [sumZ (vTm (pickZ x.n1 6).toNat) yb sg] w' v31)⟩ := hdep 31 _ 90 (by kernel_rfl) rfl rfl
  obtain ⟨ra, rn, rc, rfl, k90⟩ := g31
  have hp : ∃ sl, (.agg #[.int .i64 4, .string (vName (pickZ x.n0 6).toNat), .slice ra rn rc] : Value) = .agg #[.int .i64 4, .string (vName (pickZ x.n0 6).toNat), sl] ∧ RowSix (w.heap.size + 2) [sumZ (vTm (pickZ x.n1 6).toNat) yb sg] w' sl := ⟨_, rfl, _, _, _, rfl, k90⟩
  rw [if_pos (by rfl)]
  go_simp
  exact hK.out _ _ hg hp (fun _ _ h => h)
 case last =>
  intro a w' hoff hg hf
  obtain ⟨_, e0, rfl⟩ := hf 0 _ 59 (by decide) rfl rfl
  obtain ⟨_, e1, rfl⟩ := hf 1 _ 60 (by decide) rfl rfl
  obtain ⟨_, e2, rfl⟩ := hf 2 _ 61 (by decide) rfl rfl
  obtain ⟨_, e3, rfl⟩ := hf 3 _ 62 (by decide) rfl rfl
  obtain ⟨_, e4, rfl⟩ := hf 4 _ 63 (by decide) rfl rfl
  obtain ⟨v5, e5, (g5 : StrTwo w' v5)⟩ := hf 5 _ 64 (by decide) rfl rfl
  obtain ⟨_, e6, rfl⟩ := hf 6 _ 65 (by decide) rfl rfl
  obtain ⟨_, e7, rfl⟩ := hf 7 _ 66 (by decide) rfl rfl
  obtain ⟨_, e8, rfl⟩ := hf 8 _ 67 (by decide) rfl rfl
  obtain ⟨_, e9, rfl⟩ := hf 9 _ 68 (by decide) rfl rfl
  obtain ⟨v10, e10, (g10 : StrPtr n3 sg w' v10)⟩ := hf 10 _ 69 (by decide) rfl rfl
  obtain ⟨_, e11, rfl⟩ := hf 11 _ 70 (by decide) rfl rfl
  obtain ⟨_, e12, rfl⟩ := hf 12 _ 71 (by decide) rfl rfl
  obtain ⟨_, e13, rfl⟩ := hf 13 _ 72 (by decide) rfl rfl
  obtain ⟨_, e14, rfl⟩ := hf 14 _ 73 (by decide) rfl rfl
  obtain ⟨_, e15, rfl⟩ := hf 15 _ 74 (by decide) rfl rfl
  obtain ⟨_, e16, rfl⟩ := hf 16 _ 75 (by decide) rfl rfl
  obtain ⟨_, e17, rfl⟩ := hf 17 _ 76 (by decide) rfl rfl
  obtain ⟨_, e18, rfl⟩ := hf 18 _ 77 (by decide) rfl rfl
  obtain ⟨_, e19, rfl⟩ := hf 19 _ 78 (by decide) rfl rfl
  obtain ⟨_, e20, rfl⟩ := hf 20 _ 79 (by decide) rfl rfl
  obtain ⟨v21, e21, (g21 : TwoAt #[.int .i64 2, .string ⟨#[]⟩, .int .i64 1, .int .i64 1, .string ⟨#[]⟩, .slice none 0 0, .slice none 0 0, .int .i64 1, .string (vName (pickZ (x.n2) 6).toNat), .int .i64 0, .int .i64 0, .string ⟨#[]⟩, .slice none 0 0, .slice none 0 0] w' v21)⟩ := hf 21 _ 80 (by decide) rfl rfl
  obtain ⟨_, e22, rfl⟩ := hf 22 _ 81 (by decide) rfl rfl
  obtain ⟨_, e23, rfl⟩ := hf 23 _ 82 (by decide) rfl rfl
  obtain ⟨_, e24, rfl⟩ := hf 24 _ 83 (by decide) rfl rfl
  obtain ⟨_, e25, rfl⟩ := hf 25 _ 84 (by decide) rfl rfl
  obtain ⟨_, e26, rfl⟩ := hf 26 _ 85 (by decide) rfl rfl
  obtain ⟨v27, e27, (g27 : TmPtr (n4 * 7) (d0) (d1) (d2) (d3) (d4) (d5) (d6) w' v27)⟩ := hf 27 _ 86 (by decide) rfl rfl
  obtain ⟨_, e28, rfl⟩ := hf 28 _ 87 (by decide) rfl rfl
  obtain ⟨v29, e29, (g29 : RowSix (w.heap.size + 2) [vTm (pickZ x.n1 6).toNat, yb] w' v29)⟩ := hf 29 _ 88 (by decide) rfl rfl
  obtain ⟨v30, e30, (g30 : MadeSix (w.heap.size + 2) (sumZ (vTm (pickZ x.n1 6).toNat) yb sg) sg w' v30)⟩ := hf 30 _ 89 (by decide) rfl rfl
  obtain ⟨v31, e31, (g31 : RowSix (w.heap.size + 2) [sumZ (vTm (pickZ x.n1 6).toNat) yb sg] w' v31)⟩ := hf 31 _ 90 (by decide) rfl rfl
  obtain ⟨v32, e32, (g32 : ∃ sl, v32 = .agg #[.int .i64 4, .string (vName (pickZ x.n0 6).toNat), sl] ∧ RowSix (w.heap.size + 2) [sumZ (vTm (pickZ x.n1 6).toNat) yb sg] w' sl)⟩ := hf 32 _ 91 (by decide) rfl rfl
  obtain ⟨sl, rfl, ra, rn, rc, rfl, k9⟩ := g32
  have R3 := Lib.hid (R1.out.on hg); have B3 := Lib.hid (Below.step B1.out hg)
  have z0 := frozen_of_row w' (w.heap.size + 1) 0 _ _ R3.out; have z1 := frozen_of_row w' (w.heap.size + 1) 1 _ _ R3.out; have z2 := frozen_of_row w' (w.heap.size + 1) 2 _ _ R3.out
  obtain ⟨r0, r1, r2⟩ := R3.out.cells
  rw [if_pos (by rfl)]
  rw [hoff.sets [(59, .pointer (some ⟨w.heap.size, 2, none⟩)), (60, .pointer (some ⟨w.heap.size, 2, none⟩)), (61, .int .i64 x.n0), (62, .agg #[.int .i64 1, .string (vName (pickZ (x.n0) 6).toNat), .int .i64 0, .int .i64 0, .string ⟨#[]⟩, .slice none 0 0, .slice none 0 0]), (63, .string (vName (pickZ x.n0 6).toNat)), (64, v5), (65, .pointer (some ⟨w.heap.size, 2, none⟩)), (66, .pointer (some ⟨w.heap.size, 5, none⟩)), (67, .int .i64 x.n3), (68, .int .i64 (n3 : Int)), (69, v10), (70, .string sg), (71, .pointer (some ⟨w.heap.size, 2, none⟩)), (72, .pointer (some ⟨w.heap.size, 3, none⟩)), (73, .int .i64 x.n1), (74, .agg #[.int .i64 1, .string (vName (pickZ (x.n1) 6).toNat), .int .i64 0, .int .i64 0, .string ⟨#[]⟩, .slice none 0 0, .slice none 0 0]), (75, .agg #[.int .i64 2, .string ⟨#[]⟩, .int .i64 1, .int .i64 1, .string ⟨#[]⟩, .slice none 0 0, .slice none 0 0]), (76, .pointer (some ⟨w.heap.size, 2, none⟩)), (77, .pointer (some ⟨w.heap.size, 4, none⟩)), (78, .int .i64 x.n2), (79, .agg #[.int .i64 1, .string (vName (pickZ (x.n2) 6).toNat), .int .i64 0, .int .i64 0, .string ⟨#[]⟩, .slice none 0 0, .slice none 0 0]), (80, v21), (81, .pointer (some ⟨w.heap.size, 2, none⟩)), (82, .pointer (some ⟨w.heap.size, 5, none⟩)), (83, .int .i64 x.n3), (84, .int .i64 (x.n3.tdiv 2)), (85, .int .i64 (n4 : Int)), (86, v27), (87, .agg #[d0, d1, d2, d3, d4, d5, d6]), (88, v29), (89, v30), (90, v31), (91, .agg #[.int .i64 4, .string (vName (pickZ x.n0 6).toNat), .slice ra rn rc])] (by kernel_rfl) (by intro p hp; simp only [List.mem_cons, List.not_mem_nil, or_false] at hp; rcases hp with rfl | rfl | rfl | rfl | rfl | rfl | rfl | rfl | rfl | rfl | rfl | rfl | rfl | rfl | rfl | rfl | rfl | rfl | rfl | rfl | rfl | rfl | rfl | rfl | rfl | rfl | rfl | rfl | rfl | rfl | rfl | rfl | rfl <;> assumption)]
  clear hoff hf e0 e1 e2 e3 e4 e5 e6 e7 e8 e9 e10 e11 e12 e13 e14 e15 e16 e17 e18 e19 e20 e21 e22 e23 e24 e25 e26 e27 e28 e29 e30 e31 e32
  simp only [List.foldl_cons, List.foldl_nil, List.setIfInBounds_toArray, List.set_cons_zero, List.set_cons_succ]
  have HRL : Hid (RepLi (fun k => (w.heap.size + 2) ≤ k ∧ k < w'.heap.size) w' ⟨4, (vName (pickZ x.n0 6).toNat), [sumZ (vTm (pickZ x.n1 6).toNat) yb sg]⟩ (.int .i64 4) (.string ((vName (pickZ x.n0 6).toNat))) (.slice ra rn rc)) := ⟨rfl, rfl, small64 (show (0 : Int) ≤ 4 ∧ (4 : Int) ≤ 100 by decide), vName_size _, k9⟩
  clear k9
  go_simp
  clear r0 r1 r2 z0 z1 z2
  have R4 := boxLi_set R3.out (.int .i64 4) (.string ((vName (pickZ x.n0 6).toNat))) (.slice ra rn rc)
  have B4 : Below w.heap.size w (((w'.setCell ⟨w.heap.size + 1, 0, none⟩ (.int .i64 4)).setCell ⟨w.heap.size + 1, 1, none⟩ (.string ((vName (pickZ x.n0 6).toNat)))).setCell ⟨w.heap.size + 1, 2, none⟩ (.slice ra rn rc)) := ((B3.out.setCell (p := ⟨w.heap.size + 1, 0, none⟩) (by simp) _).setCell (p := ⟨w.heap.size + 1, 1, none⟩) (by simp) _).setCell (p := ⟨w.heap.size + 1, 2, none⟩) (by simp) _
  have HRM : RepLi (fun k => w.heap.size ≤ k ∧ k < (((w'.setCell ⟨w.heap.size + 1, 0, none⟩ (.int .i64 4)).setCell ⟨w.heap.size + 1, 1, none⟩ (.string ((vName (pickZ x.n0 6).toNat)))).setCell ⟨w.heap.size + 1, 2, none⟩ (.slice ra rn rc)).heap.size) (((w'.setCell ⟨w.heap.size + 1, 0, none⟩ (.int .i64 4)).setCell ⟨w.heap.size + 1, 1, none⟩ (.string ((vName (pickZ x.n0 6).toNat)))).setCell ⟨w.heap.size + 1, 2, none⟩ (.slice ra rn rc)) ⟨4, (vName (pickZ x.n0 6).toNat), [sumZ (vTm (pickZ x.n1 6).toNat) yb sg]⟩ (.int .i64 4) (.string ((vName (pickZ x.n0 6).toNat))) (.slice ra rn rc) := RepLi.on (fun k hk => ⟨by omega, by simp [World.setCell]; exact hk.2⟩) (fun k hk => by rw [Below.heap_setCell _ _ _ _ (show k ≠ w.heap.size + 1 by omega), Below.heap_setCell _ _ _ _ (show k ≠ w.heap.size + 1 by omega), Below.heap_setCell _ _ _ _ (show k ≠ w.heap.size + 1 by omega)]) HRL.out
  have HB4 := Lib.hid B4; have HR4 := Lib.hid HRM
  clear B4 HRM HRL hg
  generalize (((w'.setCell ⟨w.heap.size + 1, 0, none⟩ (.int .i64 4)).setCell ⟨w.heap.size + 1, 1, none⟩ (.string ((vName (pickZ x.n0 6).toNat)))).setCell ⟨w.heap.size + 1, 2, none⟩ (.slice ra rn rc)) = w9 at *
  obtain ⟨r0, r1, r2⟩ := R4.cells
  go_wp2_with fail
  rw [HLZ.out]
  exact bodyPost_ret (v := .agg #[.int .i64 4, .string ((vName (pickZ x.n0 6).toNat)), .slice ra rn rc]) (by simp [results, Tryz.results54, go_sem, r0, r1, r2]) rfl ⟨_, rfl, HR4.out, HB4.out⟩
theorem literal_setting (x : Rw) (w : World) (hx : RwOk x) (h7 : pickZ x.kind 8 = 7) : Calls Tryz.prog 54 #[rwV x] w (MadeLi (litZ x) w) := by
 have hm := pickZ_bd x.n3 2 (by omega)
 have hm4 := pickZ_bd (x.n3.tdiv 2) 2 (by omega)
 have hz : litZ x = ⟨4, vName (pickZ x.n0 6).toNat, [sumZ (vZ x.n1) (if pickZ (x.n3.tdiv 2) 2 = 0 then numZ 1 else vZ x.n2) (if pickZ x.n3 2 = 0 then ⟨#[43]⟩ else ⟨#[45]⟩)]⟩ := by
  rw [litZ, if_neg (by omega), if_neg (by omega), if_neg (by omega)]
 by_cases a3 : pickZ x.n3 2 = 0 <;> by_cases a4 : pickZ (x.n3.tdiv 2) 2 = 0
 ·rw [if_pos a3, if_pos a4] at hz
  exact literal_set x w hx 0 0 _ _ _ _ _ _ _ _ _ h7 a3 a4 (.inl ⟨rfl, rfl⟩) (.inl ⟨rfl, rfl⟩) (fun _ _ => numZ_rep _ _ (small64 (by omega))) hz
 ·rw [if_pos a3, if_neg a4] at hz
  exact literal_set x w hx 0 1 _ _ _ _ _ _ _ _ _ h7 a3 (by omega) (.inl ⟨rfl, rfl⟩) (.inr ⟨rfl, rfl⟩) (fun _ _ => vTm_rep _ _ _) hz
 ·rw [if_neg a3, if_pos a4] at hz
  exact literal_set x w hx 1 0 _ _ _ _ _ _ _ _ _ h7 (by omega) a4 (.inr ⟨rfl, rfl⟩) (.inl ⟨rfl, rfl⟩) (fun _ _ => numZ_rep _ _ (small64 (by omega))) hz
 ·rw [if_neg a3, if_neg a4] at hz
  exact literal_set x w hx 1 1 _ _ _ _ _ _ _ _ _ h7 (by omega) (by omega) (.inr ⟨rfl, rfl⟩) (.inr ⟨rfl, rfl⟩) (fun _ _ => vTm_rep _ _ _) hz
end Go.Proofs.YtjohcnhiblfbnaaGreatDoor
