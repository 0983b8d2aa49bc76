/-
  SixLit
-/
import Derived.Test.YtjmnnjikmmglpaaGreatKF03
import Derived.Test.YtjmnnjikmmglpaaGreatKF08
import Derived.Test.YtjmnnjikmmglpaaGreatKF09
namespace Go.Proofs.YtjmnnjikmmglpaaGreat
open Go.RowKit
theorem declOf_ok (x : Rw) : (declOf x).name.size ≤ maxLen ∧ 1 ≤ (declOf x).arity ∧ (declOf x).arity ≤ 3 := by
 have := pickZ_bd x.name 6 (by omega);exact decl6_ok (by omega)
theorem atomZ_len (x : Rw) : (atomZ x).length ≤ 3 := by
 have := declOf_ok x;rw [atomZ, atomTo, List.length_cons, List.length_map, List.length_range];omega
set_option maxRecDepth 100000 in
set_option maxHeartbeats 80000000 in
theorem literal_atoms (x : Rw) (w : World) (hx : RwOk x) (h7 : pickZ x.kind 8 = 0 ∨ pickZ x.kind 8 = 1 ∨ pickZ x.kind 8 = 2 ∨ pickZ x.kind 8 = 3) : Calls Tryz.prog 43 #[rwV x] w (MadeLi (litZ x) w) := by
 have HX := Lib.hid hx;rw [rwV];go_enter Tryz.func43, Tryz.ntmps43
 go_wp2_with fail
 have x1 := boxRw_new w x; have b1 := below_alloc w (.cells #[.int .i64 x.kind, .int .i64 x.name, .int .i64 x.n0, .int .i64 x.n1, .int .i64 x.n2, .int .i64 x.n3] 77)
 have s1 := World.size_alloc w (.cells #[.int .i64 x.kind, .int .i64 x.name, .int .i64 x.n0, .int .i64 x.n1, .int .i64 x.n2, .int .i64 x.n3] 77);generalize w.alloc (.cells #[.int .i64 x.kind, .int .i64 x.name, .int .i64 x.n0, .int .i64 x.n1, .int .i64 x.n2, .int .i64 x.n3] 77) = wa at *;have r2 := boxLi_new wa (.int .i64 0) (.string ⟨#[]⟩) (.slice none 0 0); have b2 := below_alloc wa (.cells #[.int .i64 0, .string ⟨#[]⟩, .slice none 0 0] 60)
 have s2 := World.size_alloc wa (.cells #[.int .i64 0, .string ⟨#[]⟩, .slice none 0 0] 60);generalize wa.alloc (.cells #[.int .i64 0, .string ⟨#[]⟩, .slice none 0 0] 60) = wb at *;rw [s1] at r2;have X0 := Lib.hid (x1.on b2); have R0 := Lib.hid r2; have B0 := Lib.hid (Below.step b1 b2)
 have HSB : Hid (w.heap.size + 2 ≤ wb.heap.size) := by show _ ≤ _; omega
 clear x1 b1 s1 r2 b2 s2;obtain ⟨p0, p1, p2, p3, p4, p5⟩ := X0.out.cells;go_wp2_with fail
 refine (atom_any x wb HX.out).mono ?_;rintro e w1 ⟨lv, rfl, hm, hb⟩;have X1 := Lib.hid (X0.out.on hb); have R1 := Lib.hid (R0.out.on hb); have B1 := Lib.hid (Below.step B0.out hb)
 have HS1 : Hid (w.heap.size + 2 ≤ w1.heap.size) := Nat.le_trans HSB.out hb.size;have HM1 := Lib.hid hm;obtain ⟨la, lc, rfl⟩ := OwnK.form hm;clear hm hb p0 p1 p2 p3 p4 p5 X0 R0 B0;obtain ⟨p0, p1, p2, p3, p4, p5⟩ := X1.out.cells;go_wp2_with fail
 refine (pick6_any x.kind 8 _ HX.out.1 (by omega) (by omega)).mono ?_;rintro e w' ⟨rfl, rfl⟩
 have HLZ : Hid (litZ x = ⟨1, (declOf x).name, atomZ x⟩) := by
  show _ = _
  rw [litZ, if_pos (by omega)]
 have HLEN := Lib.hid (atomZ_len x); have HNS := Lib.hid (declOf_ok x).1
 rcases h7 with h7 | h7 | h7 | h7
 all_goals
  rw [h7];clear h7 hx p0 p1 p2 p3 p4 p5;have R4 := boxLi_set R1.out (.int .i64 1) (.string (declOf x).name) (.slice la (atomZ x).length lc);have B4 : Below w.heap.size w (((w1.setCell ⟨w.heap.size + 1, 0, none⟩ (.int .i64 1)).setCell ⟨w.heap.size + 1, 1, none⟩ (.string (declOf x).name)).setCell ⟨w.heap.size + 1, 2, none⟩ (.slice la (atomZ x).length lc)) := ((B1.out.setCell (p := ⟨w.heap.size + 1, 0, none⟩) (by simp) _).setCell (p := ⟨w.heap.size + 1, 1, none⟩) (by simp) _).setCell (p := ⟨w.heap.size + 1, 2, none⟩) (by simp) _;have HRL : RepMs (fun k => w.heap.size + 2 ≤ k ∧ k < w1.heap.size) w1 (atomZ x) (.slice la (atomZ x).length lc) := HM1.out.slg (fun k h1 h2 => ⟨Nat.le_trans HSB.out h1, h2⟩) (by have := HLEN.out; omega)
  have HRM : RepLi (fun k => w.heap.size ≤ k ∧ k < (((w1.setCell ⟨w.heap.size + 1, 0, none⟩ (.int .i64 1)).setCell ⟨w.heap.size + 1, 1, none⟩ (.string (declOf x).name)).setCell ⟨w.heap.size + 1, 2, none⟩ (.slice la (atomZ x).length lc)).heap.size) (((w1.setCell ⟨w.heap.size + 1, 0, none⟩ (.int .i64 1)).setCell ⟨w.heap.size + 1, 1, none⟩ (.string (declOf x).name)).setCell ⟨w.heap.size + 1, 2, none⟩ (.slice la (atomZ x).length lc)) ⟨1, (declOf x).name, atomZ x⟩ (.int .i64 1) (.string (declOf x).name) (.slice la (atomZ x).length lc) :=
   ⟨rfl, rfl, small64 (show (0 : Int) ≤ 1 ∧ (1 : Int) ≤ 100 by decide), HNS.out, RepMs.on (fun k hk => ⟨by omega, by simp [World.setCell]; exact hk.2⟩) (fun k hk => by rw [Below.heap_setCell _ _ _ _ (show k ≠ w.heap.size + 1 by omega), Below.heap_setCell _ _ _ _ (show k ≠ w.heap.size + 1 by omega), Below.heap_setCell _ _ _ _ (show k ≠ w.heap.size + 1 by omega)]) HRL⟩
  have HB4 := Lib.hid B4; have HR4 := Lib.hid HRM; have HX4 := Lib.hid R4
  clear B4 HRM HRL R4;have z0 := frozen_of_row w1 (w.heap.size + 1) 0 _ _ R1.out; have z1 := frozen_of_row w1 (w.heap.size + 1) 1 _ _ R1.out; have z2 := frozen_of_row w1 (w.heap.size + 1) 2 _ _ R1.out
  obtain ⟨r0, r1, r2⟩ := R1.out.cells;go_wp2_with fail
  clear r0 r1 r2 z0 z1 z2;generalize (((w1.setCell ⟨w.heap.size + 1, 0, none⟩ (.int .i64 1)).setCell ⟨w.heap.size + 1, 1, none⟩ (.string (declOf x).name)).setCell ⟨w.heap.size + 1, 2, none⟩ (.slice la (atomZ x).length lc)) = w9 at *;obtain ⟨r0, r1, r2⟩ := HX4.out.cells;rw [HLZ.out];exact bodyPost_ret (v := .agg #[.int .i64 1, .string (declOf x).name, .slice la (atomZ x).length lc]) (by simp [results, Tryz.results43, go_sem, r0, r1, r2]) rfl ⟨_, rfl, HR4.out, HB4.out⟩
set_option maxRecDepth 100000 in
set_option maxHeartbeats 20000000 in
theorem literal_atom4 (x : Rw) (w : World) (hx : RwOk x) (h7 : pickZ x.kind 8 = 4) : Calls Tryz.prog 43 #[rwV x] w (MadeLi (litZ x) w) := by
 have HX := Lib.hid hx;rw [rwV];go_enter Tryz.func43, Tryz.ntmps43
 go_wp2_with fail
 have x1 := boxRw_new w x; have b1 := below_alloc w (.cells #[.int .i64 x.kind, .int .i64 x.name, .int .i64 x.n0, .int .i64 x.n1, .int .i64 x.n2, .int .i64 x.n3] 77)
 have s1 := World.size_alloc w (.cells #[.int .i64 x.kind, .int .i64 x.name, .int .i64 x.n0, .int .i64 x.n1, .int .i64 x.n2, .int .i64 x.n3] 77);generalize w.alloc (.cells #[.int .i64 x.kind, .int .i64 x.name, .int .i64 x.n0, .int .i64 x.n1, .int .i64 x.n2, .int .i64 x.n3] 77) = wa at *;have r2 := boxLi_new wa (.int .i64 0) (.string ⟨#[]⟩) (.slice none 0 0); have b2 := below_alloc wa (.cells #[.int .i64 0, .string ⟨#[]⟩, .slice none 0 0] 60)
 have s2 := World.size_alloc wa (.cells #[.int .i64 0, .string ⟨#[]⟩, .slice none 0 0] 60);generalize wa.alloc (.cells #[.int .i64 0, .string ⟨#[]⟩, .slice none 0 0] 60) = wb at *;rw [s1] at r2;have X0 := Lib.hid (x1.on b2); have R0 := Lib.hid r2; have B0 := Lib.hid (Below.step b1 b2)
 have HSB : Hid (w.heap.size + 2 ≤ wb.heap.size) := by show _ ≤ _; omega
 clear x1 b1 s1 r2 b2 s2;obtain ⟨p0, p1, p2, p3, p4, p5⟩ := X0.out.cells;go_wp2_with fail
 refine (atom_any x wb HX.out).mono ?_;rintro e w1 ⟨lv, rfl, hm, hb⟩;have X1 := Lib.hid (X0.out.on hb); have R1 := Lib.hid (R0.out.on hb); have B1 := Lib.hid (Below.step B0.out hb)
 have HS1 : Hid (w.heap.size + 2 ≤ w1.heap.size) := Nat.le_trans HSB.out hb.size;have HM1 := Lib.hid hm;obtain ⟨la, lc, rfl⟩ := OwnK.form hm;clear hm hb p0 p1 p2 p3 p4 p5 X0 R0 B0;obtain ⟨p0, p1, p2, p3, p4, p5⟩ := X1.out.cells;go_wp2_with fail
 refine (pick6_any x.kind 8 _ HX.out.1 (by omega) (by omega)).mono ?_;rintro e w' ⟨rfl, rfl⟩
 have HLZ : Hid (litZ x = ⟨2, (declOf x).name, atomZ x⟩) := by
  show _ = _
  rw [litZ, if_neg (by omega), if_pos (by omega)]
 have HLEN := Lib.hid (atomZ_len x); have HNS := Lib.hid (declOf_ok x).1
 rw [h7];clear h7 hx p0 p1 p2 p3 p4 p5;have R4 := boxLi_set R1.out (.int .i64 2) (.string (declOf x).name) (.slice la (atomZ x).length lc);have B4 : Below w.heap.size w (((w1.setCell ⟨w.heap.size + 1, 0, none⟩ (.int .i64 2)).setCell ⟨w.heap.size + 1, 1, none⟩ (.string (declOf x).name)).setCell ⟨w.heap.size + 1, 2, none⟩ (.slice la (atomZ x).length lc)) := ((B1.out.setCell (p := ⟨w.heap.size + 1, 0, none⟩) (by simp) _).setCell (p := ⟨w.heap.size + 1, 1, none⟩) (by simp) _).setCell (p := ⟨w.heap.size + 1, 2, none⟩) (by simp) _;have HRL : RepMs (fun k => w.heap.size + 2 ≤ k ∧ k < w1.heap.size) w1 (atomZ x) (.slice la (atomZ x).length lc) := HM1.out.slg (fun k h1 h2 => ⟨Nat.le_trans HSB.out h1, h2⟩) (by have := HLEN.out; omega)
 have HRM : RepLi (fun k => w.heap.size ≤ k ∧ k < (((w1.setCell ⟨w.heap.size + 1, 0, none⟩ (.int .i64 2)).setCell ⟨w.heap.size + 1, 1, none⟩ (.string (declOf x).name)).setCell ⟨w.heap.size + 1, 2, none⟩ (.slice la (atomZ x).length lc)).heap.size) (((w1.setCell ⟨w.heap.size + 1, 0, none⟩ (.int .i64 2)).setCell ⟨w.heap.size + 1, 1, none⟩ (.string (declOf x).name)).setCell ⟨w.heap.size + 1, 2, none⟩ (.slice la (atomZ x).length lc)) ⟨2, (declOf x).name, atomZ x⟩ (.int .i64 2) (.string (declOf x).name) (.slice la (atomZ x).length lc) :=
  ⟨rfl, rfl, small64 (show (0 : Int) ≤ 2 ∧ (2 : Int) ≤ 100 by decide), HNS.out, RepMs.on (fun k hk => ⟨by omega, by simp [World.setCell]; exact hk.2⟩) (fun k hk => by rw [Below.heap_setCell _ _ _ _ (show k ≠ w.heap.size + 1 by omega), Below.heap_setCell _ _ _ _ (show k ≠ w.heap.size + 1 by omega), Below.heap_setCell _ _ _ _ (show k ≠ w.heap.size + 1 by omega)]) HRL⟩
 have HB4 := Lib.hid B4; have HR4 := Lib.hid HRM; have HX4 := Lib.hid R4
 clear B4 HRM HRL R4;have z0 := frozen_of_row w1 (w.heap.size + 1) 0 _ _ R1.out; have z1 := frozen_of_row w1 (w.heap.size + 1) 1 _ _ R1.out; have z2 := frozen_of_row w1 (w.heap.size + 1) 2 _ _ R1.out
 obtain ⟨r0, r1, r2⟩ := R1.out.cells;go_wp2_with fail
 clear r0 r1 r2 z0 z1 z2;generalize (((w1.setCell ⟨w.heap.size + 1, 0, none⟩ (.int .i64 2)).setCell ⟨w.heap.size + 1, 1, none⟩ (.string (declOf x).name)).setCell ⟨w.heap.size + 1, 2, none⟩ (.slice la (atomZ x).length lc)) = w9 at *;obtain ⟨r0, r1, r2⟩ := HX4.out.cells;rw [HLZ.out];exact bodyPost_ret (v := .agg #[.int .i64 2, .string (declOf x).name, .slice la (atomZ x).length lc]) (by simp [results, Tryz.results43, go_sem, r0, r1, r2]) rfl ⟨_, rfl, HR4.out, HB4.out⟩
theorem literal_any (x : Rw) (w : World) (hx : RwOk x) : Calls Tryz.prog 43 #[rwV x] w (MadeLi (litZ x) w) := by
 have h8 := pickZ_bd x.kind 8 (by omega)
 by_cases h0 : pickZ x.kind 8 ≤ 3
 ·exact literal_atoms x w hx (by omega)
 by_cases h4 : pickZ x.kind 8 = 4
 ·exact literal_atom4 x w hx h4
 by_cases h5 : pickZ x.kind 8 = 5 ∨ pickZ x.kind 8 = 6
 ·exact literal_test x w hx h5
 ·exact literal_setting x w hx (by omega)
end Go.Proofs.YtjmnnjikmmglpaaGreat
