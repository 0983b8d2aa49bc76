/-
  SixAtom, SixRowed
-/
import Derived.Test.YtjmnnjikmmglpaaGreatKF03
import Derived.Test.YtjmnnjikmmglpaaGreatKF04
import Derived.Test.YtjmnnjikmmglpaaGreatKF06
namespace Go.Proofs.YtjmnnjikmmglpaaGreat
open Go.RowKit
def BoxRw (w : World) (k : Nat) (x : Rw) : Prop := w.heap[k]? = some (.cells #[.int .i64 x.kind, .int .i64 x.name, .int .i64 x.n0, .int .i64 x.n1, .int .i64 x.n2, .int .i64 x.n3] 77 (0, 0))
theorem BoxRw.cells {w : World} {k : Nat} {x : Rw} (h : BoxRw w k x) : w.cell? ⟨k, 0, none⟩ = some (.int .i64 x.kind) ∧ w.cell? ⟨k, 1, none⟩ = some (.int .i64 x.name) ∧ w.cell? ⟨k, 2, none⟩ = some (.int .i64 x.n0) ∧ w.cell? ⟨k, 3, none⟩ = some (.int .i64 x.n1) ∧ w.cell? ⟨k, 4, none⟩ = some (.int .i64 x.n2) ∧ w.cell? ⟨k, 5, none⟩ = some (.int .i64 x.n3) :=
 ⟨cell_of_block' h _ rfl, cell_of_block' h _ rfl, cell_of_block' h _ rfl, cell_of_block' h _ rfl, cell_of_block' h _ rfl, cell_of_block' h _ rfl⟩
theorem BoxRw.lt {w : World} {k : Nat} {x : Rw} (h : BoxRw w k x) : k < w.heap.size := (Array.getElem?_eq_some_iff.1 h).1
theorem BoxRw.on {w w' : World} {k : Nat} {x : Rw} (h : BoxRw w k x) (hb : Below w.heap.size w w') : BoxRw w' k x := (hb.block k h.lt).trans h
theorem BoxRw.num {w : World} {b : Nat} {x : Rw} (h : BoxRw w b x) (k : Nat) (hk : k < 4) : w.cell? ⟨b, 2 + k, none⟩ = some (.int .i64 (numOf x k)) := by
 obtain ⟨-, -, p2, p3, p4, p5⟩ := h.cells
 match k, hk with
 | 0, _ => exact p2
 | 1, _ => exact p3
 | 2, _ => exact p4
 | 3, _ => exact p5
theorem boxRw_new (w : World) (x : Rw) : BoxRw (w.alloc (.cells #[.int .i64 x.kind, .int .i64 x.name, .int .i64 x.n0, .int .i64 x.n1, .int .i64 x.n2, .int .i64 x.n3] 77)) w.heap.size x := alloc_new' _ _
set_option maxRecDepth 100000 in
set_option maxHeartbeats 20000000 in
theorem atom_any (x : Rw) (w : World) (hx : RwOk x) : Calls Tryz.prog 42 #[rwV x] w fun e w' => ∃ lv, e = .returned (.tuple #[.string (declOf x).name, lv]) ∧ MineK kdTm w' w.heap.size (atomZ x) lv ∧ Below w.heap.size w w' := by
 have HX := Lib.hid hx;have hbd := pickZ_bd x.name 6 (by omega);obtain ⟨i, hi⟩ := Int.eq_ofNat_of_zero_le hbd.1;have HI : Hid (i < 6) := by show _ < _; omega
 have HZ := Lib.hid hi;have HDO : Hid (declOf x = decl6 i) := by show _ = _; rw [declOf, hi]; simp
 clear hx hbd hi;rw [rwV];go_enter Tryz.func42, Tryz.ntmps42
 go_wp2_with fail
 have X1 := Lib.hid (boxRw_new w x); have B1 := Lib.hid (below_alloc w (.cells #[.int .i64 x.kind, .int .i64 x.name, .int .i64 x.n0, .int .i64 x.n1, .int .i64 x.n2, .int .i64 x.n3] 77))
 generalize w.alloc (.cells #[.int .i64 x.kind, .int .i64 x.name, .int .i64 x.n0, .int .i64 x.n1, .int .i64 x.n2, .int .i64 x.n3] 77) = w1 at *;refine wp_region_factsL (by rfl) 72 (by rfl) (by kernel_rfl) (FA [.p (RelAt w1.heap.size), .e (.pointer (some ⟨w.heap.size, 1, none⟩)), .e (.int .i64 x.name), .e (.int .i64 i), .p (DeclPtr i), .e (.agg #[.string (decl6 i).name, .int .i64 (decl6 i).arity]), .p (ZeroDe w1.heap.size)]) (fun w' => Below w1.heap.size w1 w') (Below.drew (Below.refl _ _)) ⟨?s0, ?s1, ?s2, ?s3, ?s4, ?s5, ?s6, trivial⟩ (by rfl) ?last (by decide)
 case s0 =>
  intro a w' hoff hg hdep K hK;rw [if_pos (by rfl)];go_simp;refine (relations_any w').mono ?_;rintro e w2' ⟨rfl, hr, hb⟩;have hp : RelAt w1.heap.size w2' (.slice (some ⟨w'.heap.size, 0, none⟩) 6 6) := ⟨_, rfl, hg.size, RepDes.on (fun k hk => ⟨Nat.le_trans hg.size hk.1, hk.2⟩) (fun _ _ => rfl) hr⟩;exact hK.out _ _ (Below.step hg hb) hp (fSt ⟨fun _ h => RelAt.stay hb h, fun _ h => DeclPtr.stay hb h, fun _ h => ZeroDe.stay hb h, trivial⟩)
 case s1 =>
  intro a w' hoff hg hdep K hK;have h1 := off_at hoff 1 (v := .pointer (some ⟨w.heap.size, 0, none⟩)) (by kernel_rfl) rfl;rw [if_pos (by rfl)];go_simp;exact hK.out _ _ hg rfl (fun _ _ h => h)
 case s2 =>
  intro a w' hoff hg hdep K hK;obtain ⟨_, e1, rfl⟩ := hdep 1 _ 9 (by kernel_rfl) rfl rfl;rw [if_pos (by rfl)];obtain ⟨p0, p1, p2, p3, p4, p5⟩ := (X1.out.on hg).cells;go_simp;exact hK.out _ _ hg rfl (fun _ _ h => h)
 case s3 =>
  intro a w' hoff hg hdep K hK;obtain ⟨_, e2, rfl⟩ := hdep 2 _ 10 (by kernel_rfl) rfl rfl;rw [if_pos (by rfl)];go_simp;refine (pick6_any x.name 6 w' HX.out.2.1 (by omega) (by omega)).mono ?_;rintro e w2' ⟨rfl, rfl⟩;rw [HZ.out];have hb := Below.refl w'.heap.size w';exact hK.out _ _ (Below.step hg hb) rfl (fSt ⟨fun _ h => RelAt.stay hb h, fun _ h => DeclPtr.stay hb h, fun _ h => ZeroDe.stay hb h, trivial⟩)
 case s4 =>
  intro a w' hoff hg hdep K hK;obtain ⟨v0, e0, (g0 : RelAt w1.heap.size w' v0)⟩ := hdep 0 _ 8 (by kernel_rfl) rfl rfl;obtain ⟨_, e3, rfl⟩ := hdep 3 _ 11 (by kernel_rfl) rfl rfl;obtain ⟨b8, rfl, hb8, hr8⟩ := g0;have hk1 : (0 : Int) ≤ (i : Int) := Int.natCast_nonneg i;have hk2 : (i : Int) < 6 := by have := HI.out; omega
  have hk3 : i < 6 := HI.out;have hp := RelAt.ptr HI.out hr8;rw [if_pos (by rfl)];go_simp;exact hK.out _ _ hg hp (fun _ _ h => h)
 case s5 =>
  intro a w' hoff hg hdep K hK;obtain ⟨v4, e4, (g4 : DeclPtr i w' v4)⟩ := hdep 4 _ 12 (by kernel_rfl) rfl rfl;obtain ⟨b4, rfl, hb4, p8, p9⟩ := g4;rw [if_pos (by rfl)];obtain ⟨p0, p1, p2, p3, p4, p5⟩ := (X1.out.on hg).cells;go_simp;exact hK.out _ _ hg rfl (fun _ _ h => h)
 case s6 =>
  intro a w' hoff hg hdep K hK;rw [if_pos (by rfl)];go_simp;have hb := below_alloc w' (.cells #[.string ⟨#[]⟩, .int .i64 0] 112);have hp : ZeroDe w1.heap.size (w'.alloc (.cells #[.string ⟨#[]⟩, .int .i64 0] 112)) (.pointer (some ⟨w'.heap.size, 0, none⟩)) := ⟨_, rfl, hg.size, alloc_new' _ _⟩;exact hK.out _ _ (Below.step hg hb) hp (fSt ⟨fun _ h => RelAt.stay hb h, fun _ h => DeclPtr.stay hb h, fun _ h => ZeroDe.stay hb h, trivial⟩)
 case last =>
  intro a w' hoff hg hf;obtain ⟨v0, e0, (g0 : RelAt w1.heap.size w' v0)⟩ := hf 0 _ 8 (by decide) rfl rfl;obtain ⟨_, e1, rfl⟩ := hf 1 _ 9 (by decide) rfl rfl;obtain ⟨_, e2, rfl⟩ := hf 2 _ 10 (by decide) rfl rfl;obtain ⟨_, e3, rfl⟩ := hf 3 _ 11 (by decide) rfl rfl;obtain ⟨v4, e4, (g4 : DeclPtr i w' v4)⟩ := hf 4 _ 12 (by decide) rfl rfl;obtain ⟨_, e5, rfl⟩ := hf 5 _ 13 (by decide) rfl rfl;obtain ⟨v6, e6, (g6 : ZeroDe w1.heap.size w' v6)⟩ := hf 6 _ 4 (by decide) rfl rfl;obtain ⟨bd, rfl, hbd, hzd⟩ := g6;have z0 := frozen_of_row w' bd 0 _ _ hzd;have z1 := frozen_of_row w' bd 1 _ _ hzd;obtain ⟨r0, r1⟩ := hzd.cells;rw [if_pos (by rfl)];rw [hoff.sets [(8, v0), (9, .pointer (some ⟨w.heap.size, 1, none⟩)), (10, .int .i64 x.name), (11, .int .i64 i), (12, v4), (13, .agg #[.string (decl6 i).name, .int .i64 (decl6 i).arity]), (4, .pointer (some ⟨bd, 0, none⟩))] (by kernel_rfl) (by intro p hp; simp only [List.mem_cons, List.not_mem_nil, or_false] at hp; rcases hp with rfl | rfl | rfl | rfl | rfl | rfl | rfl <;> assumption)];clear hoff hf e0 e1 e2 e3 e4 e5 e6;simp only [List.foldl_cons, List.foldl_nil, List.setIfInBounds_toArray, List.set_cons_zero, List.set_cons_succ]
  have XD := Lib.hid (boxDe_set hzd (.string (decl6 i).name) (.int .i64 (decl6 i).arity));have BD := Lib.hid ((hg.setCell (p := ⟨bd, 0, none⟩) hbd (.string (decl6 i).name)).setCell (p := ⟨bd, 1, none⟩) hbd (.int .i64 (decl6 i).arity));go_simp;clear g0 g4 z0 z1 r0 r1 hzd hg
  skip
  generalize (w'.setCell ⟨bd, 0, none⟩ (.string (decl6 i).name)).setCell ⟨bd, 1, none⟩ (.int .i64 (decl6 i).arity) = wd at *;have X2 := Lib.hid (X1.out.on BD.out);have B2 := Lib.hid (Below.step B1.out BD.out);have HBD : Hid (w.heap.size < bd) := by show _ < _; have := X1.out.lt; omega
  obtain ⟨p0, p1, p2, p3, p4, p5⟩ := X2.out.cells;go_wp2_with fail
  refine (v_any x.n0 wd HX.out.2.2.1).mono ?_;rintro e w3 ⟨rfl, hb⟩;have X3 := Lib.hid (X2.out.on hb); have D3 := Lib.hid (XD.out.on hb); have B3 := Lib.hid (Below.step B2.out hb)
  clear hb p0 p1 p2 p3 p4 p5;rw [vVal];go_wp2_with fail
  have n4 := alloc_new' w3 (.cells #[.int .i64 1, .string (vName (pickZ x.n0 6).toNat), .int .i64 0, .int .i64 0, .string ⟨#[]⟩, .slice none 0 0, .slice none 0 0] 68);have b4 := below_alloc w3 (.cells #[.int .i64 1, .string (vName (pickZ x.n0 6).toNat), .int .i64 0, .int .i64 0, .string ⟨#[]⟩, .slice none 0 0, .slice none 0 0] 68);have s4 := World.size_alloc w3 (.cells #[.int .i64 1, .string (vName (pickZ x.n0 6).toNat), .int .i64 0, .int .i64 0, .string ⟨#[]⟩, .slice none 0 0, .slice none 0 0] 68);generalize w3.alloc (.cells #[.int .i64 1, .string (vName (pickZ x.n0 6).toNat), .int .i64 0, .int .i64 0, .string ⟨#[]⟩, .slice none 0 0, .slice none 0 0] 68) = w4 at *;obtain ⟨B, hB⟩ : ∃ B, w3.heap.size = B := ⟨_, rfl⟩;have HM4 := Lib.hid (mineOne (S := fun _ => False) (base := w3.heap.size) (y := vTm (pickZ x.n0 6).toNat) n4 (Nat.le_refl _) (fun _ h => h.elim) (vTm_rep _ _ _));have X4 := Lib.hid (X3.out.on b4); have D4 := Lib.hid (D3.out.on b4); have BW4 := Lib.hid (Below.step B3.out b4)
  have HXB := Lib.hid (show w.heap.size < B by rw [← hB]; exact X3.out.lt); have HDB := Lib.hid (show bd < B by rw [← hB]; exact D3.out.lt)
  have HB4 : Hid (B < w4.heap.size) := by show _ < _; omega
  rw [hB] at HM4 ⊢;have HOK := Lib.hid (decl6_ok HI.out);obtain ⟨ar, har⟩ := Int.eq_ofNat_of_zero_le (show 0 ≤ (decl6 i).arity by have := HOK.out; omega);have har1 : 1 ≤ ar := by have := HOK.out; omega
  have har3 : ar ≤ 3 := by have := HOK.out; omega
  rw [har] at D4;have HAR := Lib.hid har;clear n4 b4 s4 hB har;go_loopw [5, 6] (fun lv iv wr => ∃ k : Nat, 1 ≤ k ∧ k ≤ ar ∧ iv = .int .i64 k ∧ MineK kdTm wr B (atomTo x k) lv ∧ Hid (Below B w4 wr)) (fun _ iv _ => 3 - (intOf iv).toNat)
  case atStart => exact ⟨1, Nat.le_refl _, har1, rfl, HM4.out, Below.refl _ _⟩
  case round =>
   obtain ⟨k, hk1, hka, hiv, hmine, HWR⟩ := hrel;have HO := Lib.hid hmine;obtain ⟨la, lc, rfl⟩ := OwnK.form hmine;clear hmine;have HXR : Hid (BoxRw wr w.heap.size x) := (HWR.out.block _ HXB.out).trans X4.out;have HDR : Hid (BoxDe wr bd (.string (decl6 i).name) (.int .i64 ar)) := (HWR.out.block _ HDB.out).trans D4.out;obtain ⟨p0, p1, p2, p3, p4, p5⟩ := HXR.out.cells;obtain ⟨r0, r1⟩ := HDR.out.cells;have HLN : Hid ((atomTo x k).length ≤ 3) := by show _ ≤ _; rw [atomTo, List.length_cons, List.length_map, List.length_range]; omega
   by_cases hl : k < ar
   ·have HTK : Hid (atomTo x (k + 1) = atomTo x k ++ [argZ (numOf x k)]) := atomTo_succ x k hk1
    have hl1 : decide ((k : Int) < (ar : Int)) = true := by simp; omega
    have hl2 : decide (k < ar) = true := by simp; omega
    have hk3 : k < 4 := by omega
    have hk5 : (0 : Int) ≤ (k : Int) := by omega
    have hk6 : (k : Int) < 4 := by omega
    have hk7 : k ≤ 2 := by omega
    have HQ : Hid (I64 (numOf x k)) := numOf_i64 HX.out k;have pk : wr.cell? ⟨w.heap.size, 2 + k, none⟩ = some (.int .i64 (numOf x k)) := HXR.out.num k hk3;subst hiv;clear p0 p1 p2 p3 p4 p5;go_wp2_with fail
    clear r0 r1 hl1 hl2 pk hk3 hk5 hk6;obtain ⟨q, hq⟩ : ∃ q, numOf x k = q := ⟨_, rfl⟩;rw [hq] at HQ HTK ⊢;clear hq;refine (pick6_any q 12 _ HQ.out (by omega) (by omega)).mono ?_;rintro e w' ⟨rfl, rfl⟩;have hpb := pickZ_bd q 12 (by omega);have HAZ : Hid (argZ q = if pickZ q 12 = 9 then numZ (pickZ (q.tdiv 12) 4) else if pickZ q 12 = 10 then adrZ (pickZ (q.tdiv 12) 3).toNat else if pickZ q 12 = 11 then sumZ (vZ (q.tdiv 12)) (numZ 1) ⟨#[43]⟩ else vZ q) := rfl;generalize hP : pickZ q 12 = P at *;clear hP;have hqd := tdiv_i64 HQ.out 12 (by omega);have HQD := Lib.hid hqd;have hw1 : wrap64 (q.tdiv 12) = q.tdiv 12 := by obtain ⟨a1, a2⟩ := hqd; unfold wrap64; omega
    have hw2 : IntKind.i64.wrap (q.tdiv 12) = q.tdiv 12 := by obtain ⟨a1, a2⟩ := hqd; rw [IntKind.wrap_i64]; omega
    clear hqd
    by_cases h9 : P = 9
    ·subst h9
     rw [if_pos rfl] at HAZ;rw [HAZ.out] at HTK;clear hpb;go_wp2_with fail
     refine (pick6_any (q.tdiv 12) 4 _ HQD.out (by omega) (by omega)).mono ?_;rintro e w' ⟨rfl, rfl⟩;have hpb := pickZ_bd (q.tdiv 12) 4 (by omega);have HN4 : Hid (I64 (pickZ (q.tdiv 12) 4)) := ⟨by omega, by omega⟩;clear hpb;go_wp2_with fail
     refine (num_any (pickZ (q.tdiv 12) 4) _).mono ?_;rintro e w5 ⟨rfl, hb⟩;rw [numVal];obtain ⟨a6, n6, w6, hrun, hm6, hb6, -⟩ := mk_append (K := kdTm) (y := numZ (pickZ (q.tdiv 12) 4)) (c := at7 (.int .i64 2) (.string ⟨#[]⟩) (.int .i64 1) (.int .i64 (pickZ (q.tdiv 12) 4)) (.string ⟨#[]⟩) (.slice none 0 0) (.slice none 0 0)) (cs := #[.int .i64 2, .string ⟨#[]⟩, .int .i64 1, .int .i64 (pickZ (q.tdiv 12) 4), .string ⟨#[]⟩, .slice none 0 0, .slice none 0 0]) HO.out (Nat.le_trans (Nat.le_of_lt HB4.out) HWR.out.size) (by have := HLN.out; omega) hb rfl (fun j hj => match j, hj with | 0, _ => rfl | 1, _ => rfl | 2, _ => rfl | 3, _ => rfl | 4, _ => rfl | 5, _ => rfl | 6, _ => rfl) (numZ_rep _ _ HN4.out) 44;have HRUN := Lib.hid hrun; have HM6 := Lib.hid hm6; have HB6 := Lib.hid (HWR.out.trans hb6)
     clear hrun hm6 hb6;go_wp2_with (at_builtin; refine wpList_append_by rfl _ _ _ rfl rfl rfl HRUN.out ?_)
     go_roundw
     case rel => exact ⟨k + 1, by omega, by omega, by go_num, by rw [HTK.out]; exact HM6.out, HB6.out⟩
     case measure => simp [intOf]; omega
    ·by_cases h10 : P = 10
     ·subst h10
      rw [if_neg (by omega), if_pos rfl] at HAZ;rw [HAZ.out] at HTK;clear hpb h9;go_wp2_with fail
      refine (pick6_any (q.tdiv 12) 3 _ HQD.out (by omega) (by omega)).mono ?_;rintro e w' ⟨rfl, rfl⟩;have hpb := pickZ_bd (q.tdiv 12) 3 (by omega);obtain ⟨r, hr⟩ := Int.eq_ofNat_of_zero_le hpb.1;rw [hr] at hpb HTK ⊢;have hr3 : r < 3 := by omega
      have hr5 : (0 : Int) ≤ (r : Int) := by omega
      have hr6 : (r : Int) < 3 := by omega
      rw [show ((r : Int)).toNat = r by simp] at HTK;clear hpb hr;have hb5 := below_alloc wr (.cells #[.string ⟨#[97]⟩, .string ⟨#[98]⟩, .string ⟨#[99]⟩] 9);have pr : (wr.alloc (.cells #[.string ⟨#[97]⟩, .string ⟨#[98]⟩, .string ⟨#[99]⟩] 9)).cell? ⟨wr.heap.size, r, none⟩ = some (.string (adrName r)) := cell_of_block' (alloc_new' wr _) _ (abc_at hr3);obtain ⟨a6, n6, w6, hrun, hm6, hb6, -⟩ := mk_append (K := kdTm) (y := adrZ r) (c := at7 (.int .i64 2) (.string ⟨#[]⟩) (.int .i64 3) (.int .i64 0) (.string (adrName r)) (.slice none 0 0) (.slice none 0 0)) (cs := #[.int .i64 2, .string ⟨#[]⟩, .int .i64 3, .int .i64 0, .string (adrName r), .slice none 0 0, .slice none 0 0]) HO.out (Nat.le_trans (Nat.le_of_lt HB4.out) HWR.out.size) (by have := HLN.out; omega) hb5 rfl (fun j hj => match j, hj with | 0, _ => rfl | 1, _ => rfl | 2, _ => rfl | 3, _ => rfl | 4, _ => rfl | 5, _ => rfl | 6, _ => rfl) (adrZ_rep _ _ r) 44;rw [World.size_alloc] at hrun;have HRUN := Lib.hid hrun; have HM6 := Lib.hid hm6; have HB6 := Lib.hid (HWR.out.trans hb6)
      clear hrun hm6 hb6;go_wp2_with (at_builtin; refine wpList_append_by rfl _ _ _ rfl rfl rfl HRUN.out ?_)
      go_roundw
      case rel => exact ⟨k + 1, by omega, by omega, by go_num, by rw [HTK.out]; exact HM6.out, HB6.out⟩
      case measure => simp [intOf]; omega
     ·by_cases h11 : P = 11
      ·subst h11
       rw [if_neg (by omega), if_neg (by omega), if_pos rfl] at HAZ;rw [HAZ.out] at HTK;clear hpb h9 h10;go_wp2_with fail
       refine (v_any (q.tdiv 12) _ HQD.out).mono ?_;rintro e wa ⟨rfl, hba⟩;rw [vVal];go_wp2_with fail
       refine (num_any 1 _).mono ?_;rintro e wb ⟨rfl, hbb⟩;rw [numVal];have hbc := below_alloc wb (.cells #[.int .i64 1, .string (vName (pickZ (q.tdiv 12) 6).toNat), .int .i64 0, .int .i64 0, .string ⟨#[]⟩, .slice none 0 0, .slice none 0 0, .int .i64 2, .string ⟨#[]⟩, .int .i64 1, .int .i64 1, .string ⟨#[]⟩, .slice none 0 0, .slice none 0 0] 68);have hnc := alloc_new' wb (.cells #[.int .i64 1, .string (vName (pickZ (q.tdiv 12) 6).toNat), .int .i64 0, .int .i64 0, .string ⟨#[]⟩, .slice none 0 0, .slice none 0 0, .int .i64 2, .string ⟨#[]⟩, .int .i64 1, .int .i64 1, .string ⟨#[]⟩, .slice none 0 0, .slice none 0 0] 68);have hbt := Below.step (Below.step hba hbb) hbc;have hrep := sumZ_rep (S := fun b => wr.heap.size ≤ b ∧ b < (wb.alloc (.cells #[.int .i64 1, .string (vName (pickZ (q.tdiv 12) 6).toNat), .int .i64 0, .int .i64 0, .string ⟨#[]⟩, .slice none 0 0, .slice none 0 0, .int .i64 2, .string ⟨#[]⟩, .int .i64 1, .int .i64 1, .string ⟨#[]⟩, .slice none 0 0, .slice none 0 0] 68)).heap.size) (s := ⟨#[43]⟩) (by decide) hnc ⟨Nat.le_trans hba.size hbb.size, by simp⟩ (vTm_rep _ _ (pickZ (q.tdiv 12) 6).toNat) (numZ_rep _ _ (small64 (by omega)));obtain ⟨a6, n6, w6, hrun, hm6, hb6, -⟩ := mk_append (K := kdTm) (y := sumZ (vZ (q.tdiv 12)) (numZ 1) ⟨#[43]⟩) (c := at7 (.int .i64 4) (.string ⟨#[43]⟩) (.int .i64 0) (.int .i64 0) (.string ⟨#[]⟩) (.slice none 0 0) (.slice (some ⟨wb.heap.size, 0, none⟩) 2 2)) (cs := #[.int .i64 4, .string ⟨#[43]⟩, .int .i64 0, .int .i64 0, .string ⟨#[]⟩, .slice none 0 0, .slice (some ⟨wb.heap.size, 0, none⟩) 2 2]) HO.out (Nat.le_trans (Nat.le_of_lt HB4.out) HWR.out.size) (by have := HLN.out; omega) hbt rfl (fun j hj => match j, hj with | 0, _ => rfl | 1, _ => rfl | 2, _ => rfl | 3, _ => rfl | 4, _ => rfl | 5, _ => rfl | 6, _ => rfl) hrep 44;rw [World.size_alloc] at hrun;have HRUN := Lib.hid hrun; have HM6 := Lib.hid hm6; have HB6 := Lib.hid (HWR.out.trans hb6)
       clear hrun hm6 hb6;go_wp2_with (at_builtin; refine wpList_append_by rfl _ _ _ rfl rfl rfl HRUN.out ?_)
       go_roundw
       case rel => exact ⟨k + 1, by omega, by omega, by go_num, by rw [HTK.out]; exact HM6.out, HB6.out⟩
       case measure => simp [intOf]; omega
      ·rw [if_neg h9, if_neg h10, if_neg h11] at HAZ
       rw [HAZ.out] at HTK;have h9b : (P == 9) = false := by simp [h9]
       have h10b : (P == 10) = false := by simp [h10]
       have h11b : (P == 11) = false := by simp [h11]
       clear hpb h9 h10 h11;go_wp2_with fail
       refine (v_any q _ HQ.out).mono ?_;rintro e w5 ⟨rfl, hb⟩;rw [vVal];obtain ⟨a6, n6, w6, hrun, hm6, hb6, -⟩ := mk_append (K := kdTm) (y := vZ q) (c := at7 (.int .i64 1) (.string (vName (pickZ (q) 6).toNat)) (.int .i64 0) (.int .i64 0) (.string ⟨#[]⟩) (.slice none 0 0) (.slice none 0 0)) (cs := #[.int .i64 1, .string (vName (pickZ (q) 6).toNat), .int .i64 0, .int .i64 0, .string ⟨#[]⟩, .slice none 0 0, .slice none 0 0]) HO.out (Nat.le_trans (Nat.le_of_lt HB4.out) HWR.out.size) (by have := HLN.out; omega) hb rfl (fun j hj => match j, hj with | 0, _ => rfl | 1, _ => rfl | 2, _ => rfl | 3, _ => rfl | 4, _ => rfl | 5, _ => rfl | 6, _ => rfl) (vTm_rep _ _ (pickZ q 6).toNat) 44;have HRUN := Lib.hid hrun; have HM6 := Lib.hid hm6; have HB6 := Lib.hid (HWR.out.trans hb6)
       clear hrun hm6 hb6;go_wp2_with (at_builtin; refine wpList_append_by rfl _ _ _ rfl rfl rfl HRUN.out ?_)
       go_roundw
       case rel => exact ⟨k + 1, by omega, by omega, by go_num, by rw [HTK.out]; exact HM6.out, HB6.out⟩
       case measure => simp [intOf]; omega
   ·obtain rfl : k = ar := by omega
    subst hiv;go_wp2_with fail
    go_ret2
    refine ⟨.slice la (atomTo x k).length lc, by rw [HDO.out]; rfl, ?_, BW4.out.trans (HWR.out.mono (Nat.le_of_lt HXB.out))⟩;rw [atomZ, HDO.out, HAR.out];exact HO.out.down (Nat.le_of_lt HXB.out)
end Go.Proofs.YtjmnnjikmmglpaaGreat
namespace Go.Proofs.YtjmnnjikmmglpaaGreat
open Go.RowKit
def TwoAt (cs : Array Value) (w : World) (v : Value) : Prop := ∃ b, v = .slice (some ⟨b, 0, none⟩) 2 2 ∧ w.heap[b]? = some (.cells cs 68 (0, 0))
theorem TwoAt.stay {cs : Array Value} {w w' : World} {v : Value} (hb : Below w.heap.size w w') (h : TwoAt cs w v) : TwoAt cs w' v := by
 obtain ⟨b, e, h⟩ := h;exact ⟨b, e, (hb.block b (Array.getElem?_eq_some_iff.1 h).1).trans h⟩
def TmPtr (o : Nat) (c0 c1 c2 c3 c4 c5 c6 : Value) (w : World) (v : Value) : Prop := ∃ b, v = .pointer (some ⟨b, o, none⟩) ∧ b < w.heap.size ∧ w.cell? ⟨b, o, none⟩ = some c0 ∧ w.cell? ⟨b, o + 1, none⟩ = some c1 ∧ w.cell? ⟨b, o + 2, none⟩ = some c2 ∧ w.cell? ⟨b, o + 3, none⟩ = some c3 ∧ w.cell? ⟨b, o + 4, none⟩ = some c4 ∧
 w.cell? ⟨b, o + 5, none⟩ = some c5 ∧ w.cell? ⟨b, o + 6, none⟩ = some c6
theorem TmPtr.stay {o : Nat} {c0 c1 c2 c3 c4 c5 c6 : Value} {w w' : World} {v : Value} (hb : Below w.heap.size w w') (h : TmPtr o c0 c1 c2 c3 c4 c5 c6 w v) : TmPtr o c0 c1 c2 c3 c4 c5 c6 w' v := by
 obtain ⟨b, e, hl, h0, h1, h2, h3, h4, h5, h6⟩ := h
 exact ⟨b, e, Nat.lt_of_lt_of_le hl hb.size, (hb.cell (p := ⟨b, _, none⟩) hl).trans h0, (hb.cell (p := ⟨b, _, none⟩) hl).trans h1, (hb.cell (p := ⟨b, _, none⟩) hl).trans h2, (hb.cell (p := ⟨b, _, none⟩) hl).trans h3, (hb.cell (p := ⟨b, _, none⟩) hl).trans h4,
  (hb.cell (p := ⟨b, _, none⟩) hl).trans h5, (hb.cell (p := ⟨b, _, none⟩) hl).trans h6⟩
theorem two_ptr0 {c0 c1 c2 c3 c4 c5 c6 d0 d1 d2 d3 d4 d5 d6 : Value} {w : World} {b : Nat} (h : w.heap[b]? = some (.cells #[c0, c1, c2, c3, c4, c5, c6, d0, d1, d2, d3, d4, d5, d6] 68 (0, 0))) :
  TmPtr 0 c0 c1 c2 c3 c4 c5 c6 w (.pointer (some ⟨b, 0, none⟩)) :=
 ⟨b, rfl, (Array.getElem?_eq_some_iff.1 h).1, cell_of_block' h _ rfl, cell_of_block' h _ rfl, cell_of_block' h _ rfl, cell_of_block' h _ rfl, cell_of_block' h _ rfl, cell_of_block' h _ rfl, cell_of_block' h _ rfl⟩
theorem two_ptr1 {c0 c1 c2 c3 c4 c5 c6 d0 d1 d2 d3 d4 d5 d6 : Value} {w : World} {b : Nat} (h : w.heap[b]? = some (.cells #[c0, c1, c2, c3, c4, c5, c6, d0, d1, d2, d3, d4, d5, d6] 68 (0, 0))) :
  TmPtr 7 d0 d1 d2 d3 d4 d5 d6 w (.pointer (some ⟨b, 7, none⟩)) :=
 ⟨b, rfl, (Array.getElem?_eq_some_iff.1 h).1, cell_of_block' h _ rfl, cell_of_block' h _ rfl, cell_of_block' h _ rfl, cell_of_block' h _ rfl, cell_of_block' h _ rfl, cell_of_block' h _ rfl, cell_of_block' h _ rfl⟩
def RowSix (B : Nat) (l : List Tm) (w : World) (v : Value) : Prop := ∃ ra rn rc, v = .slice ra rn rc ∧ RepMs (fun b => B ≤ b ∧ b < w.heap.size) w l v
theorem RowSix.stay {B : Nat} {l : List Tm} {w w' : World} {v : Value} (hb : Below w.heap.size w w') (h : RowSix B l w v) : RowSix B l w' v := by
 obtain ⟨a, b, c, e, h⟩ := h;exact ⟨a, b, c, e, RepMs.on (fun k hk => ⟨hk.1, Nat.lt_of_lt_of_le hk.2 hb.size⟩) (fun k hk => hb.block k hk.2) h⟩
theorem row_two {B : Nat} {y z : Tm} {w : World} {c0 c1 c2 c3 c4 c5 c6 d0 d1 d2 d3 d4 d5 d6 : Value} (hB : B ≤ w.heap.size) (h1 : RepM (fun _ => False) w y c0 c1 c2 c3 c4 c5 c6) (h2 : RepM (fun _ => False) w z d0 d1 d2 d3 d4 d5 d6) :
  RowSix B [y, z] (w.alloc (.cells #[c0, c1, c2, c3, c4, c5, c6, d0, d1, d2, d3, d4, d5, d6] 68)) (.slice (some ⟨w.heap.size, 0, none⟩) 2 2) :=
 ⟨_, _, _, rfl, slg_row (alloc_new' w _) ⟨hB, by simp⟩ rfl (by simp) (fun i h => match i, h with
  | 0, _ => RepM.on (fun _ h => h.elim) (fun _ h => h.elim) _ h1
  | 1, _ => RepM.on (fun _ h => h.elim) (fun _ h => h.elim) _ h2)⟩
theorem row_one {B : Nat} {y : Tm} {w : World} {c0 c1 c2 c3 c4 c5 c6 : Value} (hB : B ≤ w.heap.size) (h1 : RepM (fun b => B ≤ b ∧ b < w.heap.size) w y c0 c1 c2 c3 c4 c5 c6) :
  RowSix B [y] (w.alloc (.cells #[c0, c1, c2, c3, c4, c5, c6] 68)) (.slice (some ⟨w.heap.size, 0, none⟩) 1 1) :=
 ⟨_, _, _, rfl, slg_row (alloc_new' w _) ⟨hB, by simp⟩ rfl (by simp) (fun i h => match i, h with
  | 0, _ => RepM.on (fun k hk => ⟨hk.1, by simp; omega⟩) (fun k hk => Below.heap_alloc _ _ _ hk.2) _ h1)⟩
def MadeLi (y : Li) (w : World) (e : Ending) (w' : World) : Prop := ∃ sl, e = .returned (.agg #[.int .i64 y.kind, .string y.name, sl]) ∧ RepLi (fun b => w.heap.size ≤ b ∧ b < w'.heap.size) w' y (.int .i64 y.kind) (.string y.name) sl ∧ Below w.heap.size w w'
theorem boxLi_set {w : World} {k : Nat} {c0 c1 c2 : Value} (h : BoxLi w k c0 c1 c2) (d0 d1 d2 : Value) : BoxLi (((w.setCell ⟨k, 0, none⟩ d0).setCell ⟨k, 1, none⟩ d1).setCell ⟨k, 2, none⟩ d2) k d0 d1 d2 :=
 heap_setCell_same _ _ _ _ _ _ (heap_setCell_same _ _ _ _ _ _ (heap_setCell_same _ _ _ _ _ _ h))
theorem cmp_at {j : Nat} (h : j < 6) : (#[.string ⟨#[61, 61]⟩, .string ⟨#[33, 61]⟩, .string ⟨#[60]⟩, .string ⟨#[60, 61]⟩, .string ⟨#[62]⟩, .string ⟨#[62, 61]⟩] : Array Value)[j]? = some (.string (cmp6 j)) := by
 match j, h with
 | 0, _ => rfl
 | 1, _ => rfl
 | 2, _ => rfl
 | 3, _ => rfl
 | 4, _ => rfl
 | 5, _ => rfl
def StrTwo (w : World) (v : Value) : Prop := ∃ b, v = .slice (some ⟨b, 0, none⟩) 2 2 ∧ w.heap[b]? = some (.cells #[.string ⟨#[43]⟩, .string ⟨#[45]⟩] 9 (0, 0))
theorem StrTwo.stay {w w' : World} {v : Value} (hb : Below w.heap.size w w') (h : StrTwo w v) : StrTwo w' v := by
 obtain ⟨b, e, h⟩ := h;exact ⟨b, e, (hb.block b (Array.getElem?_eq_some_iff.1 h).1).trans h⟩
def StrPtr (o : Nat) (s : ByteArray) (w : World) (v : Value) : Prop := ∃ b, v = .pointer (some ⟨b, o, none⟩) ∧ b < w.heap.size ∧ w.cell? ⟨b, o, none⟩ = some (.string s)
theorem StrPtr.stay {o : Nat} {s : ByteArray} {w w' : World} {v : Value} (hb : Below w.heap.size w w') (h : StrPtr o s w v) : StrPtr o s w' v := by
 obtain ⟨b, e, hl, h⟩ := h;exact ⟨b, e, Nat.lt_of_lt_of_le hl hb.size, (hb.cell (p := ⟨b, o, none⟩) hl).trans h⟩
theorem str_ptr0 {w : World} {b : Nat} (h : w.heap[b]? = some (.cells #[.string ⟨#[43]⟩, .string ⟨#[45]⟩] 9 (0, 0))) : StrPtr 0 ⟨#[43]⟩ w (.pointer (some ⟨b, 0, none⟩)) :=
 ⟨b, rfl, (Array.getElem?_eq_some_iff.1 h).1, cell_of_block' h _ rfl⟩
theorem str_ptr1 {w : World} {b : Nat} (h : w.heap[b]? = some (.cells #[.string ⟨#[43]⟩, .string ⟨#[45]⟩] 9 (0, 0))) : StrPtr 1 ⟨#[45]⟩ w (.pointer (some ⟨b, 1, none⟩)) :=
 ⟨b, rfl, (Array.getElem?_eq_some_iff.1 h).1, cell_of_block' h _ rfl⟩
def MadeSix (B : Nat) (y : Tm) (s : ByteArray) (w : World) (v : Value) : Prop := ∃ c6, v = .agg #[.int .i64 4, .string s, .int .i64 0, .int .i64 0, .string ⟨#[]⟩, .slice none 0 0, c6] ∧
 RepM (fun b => B ≤ b ∧ b < w.heap.size) w y (.int .i64 4) (.string s) (.int .i64 0) (.int .i64 0) (.string ⟨#[]⟩) (.slice none 0 0) c6
theorem MadeSix.stay {B : Nat} {y : Tm} {s : ByteArray} {w w' : World} {v : Value} (hb : Below w.heap.size w w') (h : MadeSix B y s w v) : MadeSix B y s w' v := by
 obtain ⟨c, e, h⟩ := h;exact ⟨c, e, RepM.on (fun k hk => ⟨hk.1, Nat.lt_of_lt_of_le hk.2 hb.size⟩) (fun k hk => hb.block k hk.2) y h⟩
theorem made_sum {B : Nat} {y z : Tm} {s : ByteArray} {w : World} {ra : Option Addr} {rn rc : Nat} (hs : s.size ≤ maxLen) (h : RepMs (fun b => B ≤ b ∧ b < w.heap.size) w [y, z] (.slice ra rn rc)) :
  MadeSix B (sumZ y z s) s w (.agg #[.int .i64 4, .string s, .int .i64 0, .int .i64 0, .string ⟨#[]⟩, .slice none 0 0, .slice ra rn rc]) :=
 ⟨_, rfl, repM_mk.2 ⟨rfl, rfl, small64 (by omega), hs, zV_rep _ w, h⟩⟩
theorem cmp6_size (i : Nat) : (cmp6 i).size ≤ maxLen := by
 match i with
 | 0 => decide
 | 1 => decide
 | 2 => decide
 | 3 => decide
 | 4 => decide
 | 5 => decide
 | _ + 6 => exact Nat.zero_le _
end Go.Proofs.YtjmnnjikmmglpaaGreat
