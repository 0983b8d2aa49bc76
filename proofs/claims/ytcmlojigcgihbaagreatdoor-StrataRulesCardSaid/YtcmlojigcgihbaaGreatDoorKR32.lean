/-
  LocPlace
-/
import Derived.Test.YtcmlojigcgihbaaGreatDoorKR31
import Derived.Test.YtcmlojigcgihbaaGreatDoorKR20
namespace Go.Proofs.YtcmlojigcgihbaaGreatDoor
open Go.RowKit Go.Maps
def BoxPl (w : World) (k : Nat) (c0 c1 c2 : Value) : Prop := w.heap[k]? = some (.cells #[c0, c1, c2] 37 (0, 0))
theorem BoxPl.cells {w : World} {k : Nat} {c0 c1 c2 : Value} (h : BoxPl w k c0 c1 c2) : w.cell? ⟨k, 0, none⟩ = some c0 ∧ w.cell? ⟨k, 1, none⟩ = some c1 ∧ w.cell? ⟨k, 2, none⟩ = some c2 := ⟨cell_of_block' h _ rfl, cell_of_block' h _ rfl, cell_of_block' h _ rfl⟩
theorem BoxPl.lt {w : World} {k : Nat} {c0 c1 c2 : Value} (h : BoxPl w k c0 c1 c2) : k < w.heap.size := (Array.getElem?_eq_some_iff.1 h).1
theorem BoxPl.on {w w' : World} {k : Nat} {c0 c1 c2 : Value} (h : BoxPl w k c0 c1 c2) (hb : Below w.heap.size w w') : BoxPl w' k c0 c1 c2 := (hb.block k h.lt).trans h
theorem BoxPl.set {w : World} {k : Nat} {c0 c1 c2 : Value} (h : BoxPl w k c0 c1 c2) (d0 d1 d2 : Value) : BoxPl (((w.setCell ⟨k, 0, none⟩ d0).setCell ⟨k, 1, none⟩ d1).setCell ⟨k, 2, none⟩ d2) k d0 d1 d2 :=
 heap_setCell_same _ _ _ _ _ _ (heap_setCell_same _ _ _ _ _ _ (heap_setCell_same _ _ _ _ _ _ h))
theorem BoxPl.set0 {w : World} {k : Nat} {c0 c1 c2 : Value} (h : BoxPl w k c0 c1 c2) (d0 : Value) : BoxPl (w.setCell ⟨k, 0, none⟩ d0) k d0 c1 c2 := heap_setCell_same _ _ _ _ _ _ h
theorem BoxPl.set1 {w : World} {k : Nat} {c0 c1 c2 : Value} (h : BoxPl w k c0 c1 c2) (d1 : Value) : BoxPl (w.setCell ⟨k, 1, none⟩ d1) k c0 d1 c2 := heap_setCell_same _ _ _ _ _ _ h
theorem BoxPl.other {w : World} {k j : Nat} {c0 c1 c2 : Value} (h : BoxPl w k c0 c1 c2) (hj : k ≠ j) (i : Nat) (d : Value) : BoxPl (w.setCell ⟨j, i, none⟩ d) k c0 c1 c2 := (Below.heap_setCell _ _ _ _ hj).trans h
theorem BoxW.other {w : World} {k j : Nat} {c0 c1 : Value} (h : BoxW w k c0 c1) (hj : k ≠ j) (i : Nat) (d : Value) : BoxW (w.setCell ⟨j, i, none⟩ d) k c0 c1 := (Below.heap_setCell _ _ _ _ hj).trans h
def plRet (x : Pl × Bool) : Ending := .returned (.tuple #[.agg #[.string x.1.from', .string x.1.to', .string x.1.head], .bool x.2])
set_option maxRecDepth 100000 in
set_option maxHeartbeats 4000000 in
theorem bodyPlace_any (r : Ru) (S : Nat → Prop) (w : World) (c0 c1 c2 c3 c4 c5 : Value) (hS : ∀ k, S k → k < w.heap.size) (hx : RepRu S w r c0 c1 c2 c3 c4 c5) (hlen : r.body.length ≤ 900) (hargs : ∀ x ∈ r.body, hasPl x = true → 0 < x.args.length) (h0 : 0 < r.args.length) (hsz : ∀ s ∈ placesL [] r.body, s.size ≤ maxLen) :
  Calls Tryz.prog 37 #[.agg #[c0, c1, c2, c3, c4, c5]] w fun e w' => e = plRet (bodyPlaceZ r) ∧ Below w.heap.size w w' := by
 have HX := Lib.hid hx; have HS := Lib.hid hS; have HA := Lib.hid hargs; have HN := Lib.hid hlen; have HSZ := Lib.hid hsz
 obtain ⟨fa, fc, xa, xc, rfl, rfl, rfl, rfl, rfl, rfl⟩ := hx.form;clear hx hS hargs hlen hsz;go_enter Tryz.func37, Tryz.ntmps37
 go_upto_region 1 with fail
 have mk := boxRu_new w (.string r.label) (.string r.head) (.slice fa r.args.length fc) (.string r.agg) (.int .i64 r.at') (.slice xa r.body.length xc);have d1 := below_alloc w (.cells #[.string r.label, .string r.head, .slice fa r.args.length fc, .string r.agg, .int .i64 r.at', .slice xa r.body.length xc] 43);have s1 := World.size_alloc w (.cells #[.string r.label, .string r.head, .slice fa r.args.length fc, .string r.agg, .int .i64 r.at', .slice xa r.body.length xc] 43);generalize w.alloc (.cells #[.string r.label, .string r.head, .slice fa r.args.length fc, .string r.agg, .int .i64 r.at', .slice xa r.body.length xc] 43) = w1 at *;have m2 := alloc_new' w1 (.cells #[.string ⟨#[]⟩, .string ⟨#[]⟩, .string ⟨#[]⟩] 37);have d2 := below_alloc w1 (.cells #[.string ⟨#[]⟩, .string ⟨#[]⟩, .string ⟨#[]⟩] 37);have s2 := World.size_alloc w1 (.cells #[.string ⟨#[]⟩, .string ⟨#[]⟩, .string ⟨#[]⟩] 37);generalize w1.alloc (.cells #[.string ⟨#[]⟩, .string ⟨#[]⟩, .string ⟨#[]⟩] 37) = w2 at *;rw [s1] at m2 s2;have X1 : Hid (BoxRu w2 w.heap.size (.string r.label) (.string r.head) (.slice fa r.args.length fc) (.string r.agg) (.int .i64 r.at') (.slice xa r.body.length xc)) := mk.on d2;have X2 : Hid (BoxPl w2 (w.heap.size + 1) (.string ⟨#[]⟩) (.string ⟨#[]⟩) (.string ⟨#[]⟩)) := m2;have B2 : Hid (Below w.heap.size w w2) := Below.step d1 d2;have K2 : Hid (w.heap.size + 1 < w2.heap.size) := by show _ < _; omega
 clear mk m2 d1 d2 s1 s2;obtain ⟨k2, hk2⟩ : ∃ k, w.heap.size + 1 = k := ⟨_, rfl⟩;rw [hk2] at X2 K2 ⊢;have HK2 : Hid (w.heap.size < k2) := by show _ < _; omega
 clear hk2;obtain ⟨p0, p1, p2, p3, p4, p5⟩ := X1.out.cells;obtain ⟨-, -, ab, ao, fa0, fc0, xa0, xc0, hga, hab, -, m0, -, -, -, -, -, t0⟩ := RepMs.at (RepMs.on (fun _ h => h) (fun j hj => B2.out.block j (HS.out j hj)) HX.out.2.2.2.2.2.2.2.2.1) 0 h0;have HN0 : Hid (name0 r.args = r.args[0].name) := (kind0_at h0).2;have T0 : Hid (r.args[0].name.size ≤ maxLen) := (RepM.bounds t0).2;have q0 : w2.cell? ⟨ab, ao + 1, none⟩ = some (.string r.args[0].name) := by rw [← m0]
 have i0 : (0 : Int) < (r.args.length : Int) := by omega
 clear m0 t0 hab;subst hga;generalize r.args[0].name = hd at *;go_upto_region 2 with fail
 have m4 := alloc_new' w2 (.cells #[.string ⟨#[]⟩, .string ⟨#[]⟩, .string hd] 37);have d4 := below_alloc w2 (.cells #[.string ⟨#[]⟩, .string ⟨#[]⟩, .string hd] 37);generalize w2.alloc (.cells #[.string ⟨#[]⟩, .string ⟨#[]⟩, .string hd] 37) = w4 at *;obtain ⟨k4, hk4⟩ : ∃ k, w2.heap.size = k := ⟨_, rfl⟩;rw [hk4] at m4 ⊢;have X4 : Hid (BoxPl w4 k4 (.string ⟨#[]⟩) (.string ⟨#[]⟩) (.string hd)) := m4;have K4 : Hid (w.heap.size < k2 ∧ k2 < k4) := ⟨HK2.out, by have := K2.out; omega⟩;replace X1 := Lib.hid (X1.out.on d4); replace X2 := Lib.hid (X2.out.on d4); replace B2 := Lib.hid (Below.step B2.out d4)
 clear m4 d4 hk4 HK2 K2 p0 p1 p2 p3 p4 p5 q0 i0;obtain ⟨p0, p1, p2, p3, p4, p5⟩ := X1.out.cells;go_wp2_with fail
 refine (containsAtom_any r.body S w4 _ (fun k hk => Nat.lt_of_lt_of_le (HS.out k hk) B2.out.size) (SlG.on (fun _ h => h) (fun j hj => B2.out.block j (HS.out j hj)) (fun x _ c hx => RepLi.on (fun _ h => h) (fun j hj => B2.out.block j (HS.out j hj)) hx) HX.out.2.2.2.2.2.2.2.2.2)).mono ?_;rintro e w5 ⟨rfl, hb⟩;replace X1 := Lib.hid (X1.out.on hb); replace X2 := Lib.hid (X2.out.on hb); replace X4 := Lib.hid (X4.out.on hb); replace B2 := Lib.hid (Below.step B2.out hb)
 clear hb p0 p1 p2 p3 p4 p5;obtain ⟨p0, p1, p2, p3, p4, p5⟩ := X1.out.cells
 cases hany : r.body.any isAt with
 | false =>
  have HE : Hid (bodyPlaceZ r = (⟨⟨#[]⟩, ⟨#[]⟩, hd⟩, false)) := by show _ = _; rw [bodyPlaceZ, hany, HN0.out]; rfl
  clear hany;obtain ⟨u0, u1, u2⟩ := X4.out.cells;obtain ⟨v0, v1, v2⟩ := X2.out.cells;have z0 := frozen_of_row w5 k2 0 _ _ X2.out; have z1 := frozen_of_row w5 k2 1 _ _ X2.out; have z2 := frozen_of_row w5 k2 2 _ _ X2.out
  go_wp2_with fail
  have Y := (X2.out.set (.string ⟨#[]⟩) (.string ⟨#[]⟩) (.string hd)).cells;have BB : Below w.heap.size w (((w5.setCell ⟨k2, 0, none⟩ (.string ⟨#[]⟩)).setCell ⟨k2, 1, none⟩ (.string ⟨#[]⟩)).setCell ⟨k2, 2, none⟩ (.string hd)) := ((B2.out.setCell (p := ⟨k2, 0, none⟩) (Nat.le_of_lt K4.out.1) _).setCell (p := ⟨k2, 1, none⟩) (Nat.le_of_lt K4.out.1) _).setCell (p := ⟨k2, 2, none⟩) (Nat.le_of_lt K4.out.1) _;refine bodyPost_ret (v := .tuple #[.agg #[.string ⟨#[]⟩, .string ⟨#[]⟩, .string hd], .bool false]) (by simp [results, Tryz.results37, go_sem, Y.1, Y.2.1, Y.2.2]) rfl ⟨?_, BB⟩;rw [HE.out]; rfl
 | true =>
  have HE : Hid (bodyPlaceZ r = placeFrom hd (fun a b => firstWay a b r.body 0) (placesL [] r.body)) := by show _ = _; rw [bodyPlaceZ, hany, HN0.out]; rfl
  clear hany;go_wp2_with fail
  refine (linked_any r.body S w5 _ (fun k hk => Nat.lt_of_lt_of_le (HS.out k hk) B2.out.size) (SlG.on (fun _ h => h) (fun j hj => B2.out.block j (HS.out j hj)) (fun x _ c hx => RepLi.on (fun _ h => h) (fun j hj => B2.out.block j (HS.out j hj)) hx) HX.out.2.2.2.2.2.2.2.2.2) (Nat.le_trans HN.out (by omega))).mono ?_;rintro e w6 ⟨lb, rfl, hlb, hlk, hb⟩;have LK := Lib.hid hlk;have LB2 : Hid (lb ≠ k2) := by have := X2.out.lt; show _ ≠ _; omega
  have LBK : Hid (lb ≠ k4) := by have := X4.out.lt; show _ ≠ _; omega
  replace X1 := Lib.hid (X1.out.on hb); replace X2 := Lib.hid (X2.out.on hb); replace X4 := Lib.hid (X4.out.on hb); replace B2 := Lib.hid (Below.step B2.out hb)
  clear hb hlk hlb p0 p1 p2 p3 p4 p5;generalize hff : (fun a b => firstWay a b r.body 0) = ff at *;clear hff;obtain ⟨p0, p1, p2, p3, p4, p5⟩ := X1.out.cells;go_wp2_with fail
  have K46 : Hid (k4 < w6.heap.size) := X4.out.lt;refine (bodyPlaces_any r.body S w6 _ (fun k hk => Nat.lt_of_lt_of_le (HS.out k hk) B2.out.size) (SlG.on (fun _ h => h) (fun j hj => B2.out.block j (HS.out j hj)) (fun x _ c hx => RepLi.on (fun _ h => h) (fun j hj => B2.out.block j (HS.out j hj)) hx) HX.out.2.2.2.2.2.2.2.2.2) HN.out HA.out).mono ?_;rintro e w7 ⟨pv, rfl, hpv, hb⟩;have hpn := placesL_len r.body [];simp only [List.length_nil, Nat.zero_add] at hpn
  have PN : Hid ((placesL [] r.body).length ≤ 900) := Nat.le_trans hpn HN.out;have PV := Lib.hid (hpv.at (Nat.le_trans PN.out (by omega)));replace X1 := Lib.hid (X1.out.on hb); replace X2 := Lib.hid (X2.out.on hb); replace X4 := Lib.hid (X4.out.on hb); replace B2 := Lib.hid (Below.step B2.out hb); replace LK := Lib.hid (LK.out.on hb)
  clear hb hpv hpn p0 p1 p2 p3 p4 p5 HA HN;generalize placesL [] r.body = pl at *;obtain ⟨pa, pc, rfl⟩ := SlG.form PV.out;rcases pl with _ | ⟨sa, _ | ⟨sb, _ | ⟨c, m⟩⟩⟩
  case nil =>
   obtain ⟨u0, u1, u2⟩ := X4.out.cells;obtain ⟨v0, v1, v2⟩ := X2.out.cells;have z0 := frozen_of_row w7 k2 0 _ _ X2.out; have z1 := frozen_of_row w7 k2 1 _ _ X2.out; have z2 := frozen_of_row w7 k2 2 _ _ X2.out
   go_wp2_with fail
   have Y := (X2.out.set (.string ⟨#[]⟩) (.string ⟨#[]⟩) (.string hd)).cells;have BB : Below w.heap.size w (((w7.setCell ⟨k2, 0, none⟩ (.string ⟨#[]⟩)).setCell ⟨k2, 1, none⟩ (.string ⟨#[]⟩)).setCell ⟨k2, 2, none⟩ (.string hd)) := ((B2.out.setCell (p := ⟨k2, 0, none⟩) (Nat.le_of_lt K4.out.1) _).setCell (p := ⟨k2, 1, none⟩) (Nat.le_of_lt K4.out.1) _).setCell (p := ⟨k2, 2, none⟩) (Nat.le_of_lt K4.out.1) _;refine bodyPost_ret (v := .tuple #[.agg #[.string ⟨#[]⟩, .string ⟨#[]⟩, .string hd], .bool false]) (by simp [results, Tryz.results37, go_sem, Y.1, Y.2.1, Y.2.2]) rfl ⟨?_, BB⟩;rw [HE.out]; rfl
  case cons.nil =>
   obtain ⟨-, -, qb, qo, rfl, -, c, hc, hcx⟩ := SlG.at PV.out 0 (by simp);have q0 : w7.cell? ⟨qb, qo, none⟩ = some (.string sa) := by have h := hc 0 (by omega); rw [hcx] at h; simpa using h
   clear hc hcx;obtain ⟨u0, u1, u2⟩ := X4.out.cells;have z0 := frozen_of_row w7 k4 0 _ _ X4.out;go_upto_region 9 with fail
   replace X2 := Lib.hid (X2.out.other (show k2 ≠ k4 from Nat.ne_of_lt K4.out.2) 0 (.string sa));replace X4 := Lib.hid (X4.out.set0 (.string sa));replace B2 := Lib.hid (B2.out.setCell (p := ⟨k4, 0, none⟩) (Nat.le_of_lt (Nat.lt_trans K4.out.1 K4.out.2)) (.string sa));replace LK := Lib.hid (LK.out.set (a := ⟨k4, 0, none⟩) (show lb ≠ k4 from LBK.out) (.string sa));have HA0 := Lib.hid (HSZ.out sa (by simp));clear u0 u1 u2 z0 q0 X1 HSZ PV PN;generalize w7.setCell ⟨k4, 0, none⟩ (.string sa) = w8 at *
   cases heq : (hd.toList == sa.toList) with
   | true =>
    have HE2 : Hid (bodyPlaceZ r = (⟨sa, ⟨#[]⟩, hd⟩, true)) := by show _ = _; rw [HE.out, placeFrom, show eqS hd sa = true from heq]; rfl
    refine wp_region_factsU (by rfl) 76 (by rfl) (by kernel_rfl) (FA [.e (.agg #[.string sa, .string ⟨#[]⟩, .string hd]), .e (.pointer (some ⟨k4, 2, none⟩)), .e (.string hd), .e (.pointer (some ⟨k4, 0, none⟩)), .e (.string sa), .e (.bool true), .e (.bool true), .o, .o, .o, .o, .o, .o, .e (.bool true), .p (fun wz vz => BoxPl wz k2 (.string sa) (.string ⟨#[]⟩) (.string hd)), .e (.bool true)]) (fun w' => (Below k2 w8 w' ∧ BoxPl w' k4 (.string sa) (.string ⟨#[]⟩) (.string hd) ∧ (∃ c0 c1 c2, BoxPl w' k2 c0 c1 c2) ∧ LinksAt w' lb r.body.length ff)) ⟨Below.drew (Below.refl _ _), X4.out, ⟨_, _, _, X2.out⟩, LK.out⟩ ⟨?s0, ?s1, ?s2, ?s3, ?s4, ?s5, ?s6, ?s7, ?s8, ?s9, ?s10, ?s11, ?s12, ?s13, ?s14, ?s15, trivial⟩ ?fin
    case s0 =>
     intro a w' hoff hg hdep K hK;have h4 := off_at hoff 4 (v := .pointer (some ⟨k4, 0, none⟩)) (by kernel_rfl) rfl;rw [if_pos (by rfl)];obtain ⟨u0, u1, u2⟩ := hg.2.1.cells;go_simp;exact hK.out _ _ hg rfl (fun _ _ h => h)
    case s1 =>
     intro a w' hoff hg hdep K hK;have h4 := off_at hoff 4 (v := .pointer (some ⟨k4, 0, none⟩)) (by kernel_rfl) rfl;rw [if_pos (by rfl)];go_simp;exact hK.out _ _ hg rfl (fun _ _ h => h)
    case s2 =>
     intro a w' hoff hg hdep K hK;obtain ⟨_, e1, rfl⟩ := hdep 1 _ 35 (by kernel_rfl) rfl rfl;rw [if_pos (by rfl)];obtain ⟨u0, u1, u2⟩ := hg.2.1.cells;go_simp;exact hK.out _ _ hg rfl (fun _ _ h => h)
    case s3 =>
     intro a w' hoff hg hdep K hK;have h4 := off_at hoff 4 (v := .pointer (some ⟨k4, 0, none⟩)) (by kernel_rfl) rfl;rw [if_pos (by rfl)];go_simp;exact hK.out _ _ hg rfl (fun _ _ h => h)
    case s4 =>
     intro a w' hoff hg hdep K hK;obtain ⟨_, e3, rfl⟩ := hdep 3 _ 37 (by kernel_rfl) rfl rfl;rw [if_pos (by rfl)];obtain ⟨u0, u1, u2⟩ := hg.2.1.cells;go_simp;exact hK.out _ _ hg rfl (fun _ _ h => h)
    case s5 =>
     intro a w' hoff hg hdep K hK;obtain ⟨_, e2, rfl⟩ := hdep 2 _ 36 (by kernel_rfl) rfl rfl;obtain ⟨_, e4, rfl⟩ := hdep 4 _ 38 (by kernel_rfl) rfl rfl;rw [if_pos (by rfl)];have heq2 := heq;go_simp;exact hK.out _ _ hg rfl (fun _ _ h => h)
    case s6 =>
     intro a w' hoff hg hdep K hK;obtain ⟨_, e5, rfl⟩ := hdep 5 _ 39 (by kernel_rfl) rfl rfl;rw [if_pos (by rfl)];go_simp;exact hK.out _ _ hg rfl (fun _ _ h => h)
    case s7 =>
     intro a w' hoff hg hdep K hK;have h5 := off_at hoff 5 (v := .map (some lb)) (by kernel_rfl) rfl;obtain ⟨_, e6, rfl⟩ := hdep 6 _ 40 (by kernel_rfl) rfl rfl;rw [if_neg (by simp [Region.wanted, yielded, e6])];exact hK.out _ _ hg trivial (fun _ _ h => h)
    case s8 =>
     intro a w' hoff hg hdep K hK;have h4 := off_at hoff 4 (v := .pointer (some ⟨k4, 0, none⟩)) (by kernel_rfl) rfl;obtain ⟨_, e6, rfl⟩ := hdep 6 _ 40 (by kernel_rfl) rfl rfl;rw [if_neg (by simp [Region.wanted, yielded, e6])];exact hK.out _ _ hg trivial (fun _ _ h => h)
    case s9 =>
     intro a w' hoff hg hdep K hK;obtain ⟨v8, e8, -⟩ := hdep 8 _ 42 (by kernel_rfl) rfl rfl;obtain ⟨_, e6, rfl⟩ := hdep 6 _ 40 (by kernel_rfl) rfl rfl;rw [if_neg (by simp [Region.wanted, yielded, e6])];exact hK.out _ _ hg trivial (fun _ _ h => h)
    case s10 =>
     intro a w' hoff hg hdep K hK;have h4 := off_at hoff 4 (v := .pointer (some ⟨k4, 0, none⟩)) (by kernel_rfl) rfl;obtain ⟨_, e6, rfl⟩ := hdep 6 _ 40 (by kernel_rfl) rfl rfl;rw [if_neg (by simp [Region.wanted, yielded, e6])];exact hK.out _ _ hg trivial (fun _ _ h => h)
    case s11 =>
     intro a w' hoff hg hdep K hK;obtain ⟨v10, e10, -⟩ := hdep 10 _ 44 (by kernel_rfl) rfl rfl;obtain ⟨_, e6, rfl⟩ := hdep 6 _ 40 (by kernel_rfl) rfl rfl;rw [if_neg (by simp [Region.wanted, yielded, e6])];exact hK.out _ _ hg trivial (fun _ _ h => h)
    case s12 =>
     intro a w' hoff hg hdep K hK;obtain ⟨v7, e7, -⟩ := hdep 7 _ 41 (by kernel_rfl) rfl rfl;obtain ⟨v9, e9, -⟩ := hdep 9 _ 43 (by kernel_rfl) rfl rfl;obtain ⟨v11, e11, -⟩ := hdep 11 _ 45 (by kernel_rfl) rfl rfl;obtain ⟨_, e6, rfl⟩ := hdep 6 _ 40 (by kernel_rfl) rfl rfl;rw [if_neg (by simp [Region.wanted, yielded, e6])];exact hK.out _ _ hg trivial (fun _ _ h => h)
    case s13 =>
     intro a w' hoff hg hdep K hK;obtain ⟨_, e6, rfl⟩ := hdep 6 _ 40 (by kernel_rfl) rfl rfl;obtain ⟨v12, e12, -⟩ := hdep 12 _ 46 (by kernel_rfl) rfl rfl;rw [if_pos (by rfl)];go_simp;exact hK.out _ _ hg rfl (fun _ _ h => h)
    case s14 =>
     intro a w' hoff hg hdep K hK;have h2 := off_at hoff 2 (v := .pointer (some ⟨k2, 0, none⟩)) (by kernel_rfl) rfl;obtain ⟨_, e0, rfl⟩ := hdep 0 _ 34 (by kernel_rfl) rfl rfl;rw [if_pos (by rfl)];obtain ⟨y0, y1, y2, hy⟩ := hg.2.2.1;obtain ⟨t0, t1, t2⟩ := hy.cells;have z0 := frozen_of_row w' k2 0 _ _ hy; have z1 := frozen_of_row w' k2 1 _ _ hy; have z2 := frozen_of_row w' k2 2 _ _ hy
     go_simp;have hn : k4 ≠ k2 := Nat.ne_of_gt K4.out.2;have hbx := hy.set (.string sa) (.string ⟨#[]⟩) (.string hd);exact hK.out _ _ ⟨((hg.1.setCell (p := ⟨k2, 0, none⟩) (Nat.le_refl _) _).setCell (p := ⟨k2, 1, none⟩) (Nat.le_refl _) _).setCell (p := ⟨k2, 2, none⟩) (Nat.le_refl _) _, ((hg.2.1.other hn _ _).other hn _ _).other hn _ _, ⟨_, _, _, hbx⟩, ((hg.2.2.2.set (a := ⟨k2, 0, none⟩) LB2.out _).set (a := ⟨k2, 1, none⟩) LB2.out _).set (a := ⟨k2, 2, none⟩) LB2.out _⟩ hbx (fSt ⟨fun _ _ => hbx, trivial⟩) h2
    case s15 =>
     intro a w' hoff hg hdep K hK;obtain ⟨_, e13, rfl⟩ := hdep 13 _ 47 (by kernel_rfl) rfl rfl;rw [if_pos (by rfl)];go_simp;exact hK.out _ _ hg rfl (fun _ _ h => h)
    case fin =>
     intro a w' hoff hg hf hn;obtain ⟨_, e0, rfl⟩ := hf 0 _ 34 rfl rfl;obtain ⟨_, e1, rfl⟩ := hf 1 _ 35 rfl rfl;obtain ⟨_, e2, rfl⟩ := hf 2 _ 36 rfl rfl;obtain ⟨_, e3, rfl⟩ := hf 3 _ 37 rfl rfl;obtain ⟨_, e4, rfl⟩ := hf 4 _ 38 rfl rfl;obtain ⟨_, e5, rfl⟩ := hf 5 _ 39 rfl rfl;obtain ⟨_, e6, rfl⟩ := hf 6 _ 40 rfl rfl;obtain ⟨v7, e7, -⟩ := hf 7 _ 41 rfl rfl;obtain ⟨v8, e8, -⟩ := hf 8 _ 42 rfl rfl;obtain ⟨v9, e9, -⟩ := hf 9 _ 43 rfl rfl;obtain ⟨v10, e10, -⟩ := hf 10 _ 44 rfl rfl;obtain ⟨v11, e11, -⟩ := hf 11 _ 45 rfl rfl;obtain ⟨v12, e12, -⟩ := hf 12 _ 46 rfl rfl;obtain ⟨_, e13, rfl⟩ := hf 13 _ 47 rfl rfl;obtain ⟨v14, (g14 : BoxPl w' k2 (.string sa) (.string ⟨#[]⟩) (.string hd)), T14⟩ := hn 14 _ rfl rfl;replace T14 := T14 2 rfl;obtain ⟨_, e15, rfl⟩ := hf 15 _ 3 rfl rfl;have HB9 := Lib.hid hg.1;rw [hoff.sets [(34, .agg #[.string sa, .string ⟨#[]⟩, .string hd]), (35, .pointer (some ⟨k4, 2, none⟩)), (36, .string hd), (37, .pointer (some ⟨k4, 0, none⟩)), (38, .string sa), (39, .bool true), (40, .bool true), (41, v7), (42, v8), (43, v9), (44, v10), (45, v11), (46, v12), (47, .bool true), (3, .bool true)] (by kernel_rfl) (by intro p hp; simp only [List.mem_cons, List.not_mem_nil, or_false] at hp; rcases hp with rfl | rfl | rfl | rfl | rfl | rfl | rfl | rfl | rfl | rfl | rfl | rfl | rfl | rfl | rfl <;> assumption)];clear hoff hf hn e0 e1 e2 e3 e4 e5 e6 e7 e8 e9 e10 e11 e12 e13 e15 T14;simp only [List.foldl_cons, List.foldl_nil, List.setIfInBounds_toArray, List.set_cons_zero, List.set_cons_succ]
     go_wp2_with fail
     obtain ⟨t0, t1, t2⟩ := g14.cells;refine bodyPost_ret (v := .tuple #[.agg #[.string sa, .string ⟨#[]⟩, .string hd], .bool true]) (by simp [results, Tryz.results37, go_sem, t0, t1, t2]) rfl ⟨?_, below_two B2.out (HB9.out.mono (Nat.le_of_lt K4.out.1))⟩;rw [HE2.out]; rfl
   | false =>
    have HE2 : Hid (bodyPlaceZ r = (⟨sa, ⟨#[]⟩, hd⟩, (ff sa hd).isSome)) := by show _ = _; rw [HE.out, placeFrom, show eqS hd sa = false from heq]; rfl
    refine wp_region_factsU (by rfl) 76 (by rfl) (by kernel_rfl) (FA [.e (.agg #[.string sa, .string ⟨#[]⟩, .string hd]), .e (.pointer (some ⟨k4, 2, none⟩)), .e (.string hd), .e (.pointer (some ⟨k4, 0, none⟩)), .e (.string sa), .e (.bool false), .e (.bool false), .e (.map (some lb)), .e (.pointer (some ⟨k4, 0, none⟩)), .e (.string sa), .e (.pointer (some ⟨k4, 2, none⟩)), .e (.string hd), .e (.bool (ff sa hd).isSome), .e (.bool (ff sa hd).isSome), .p (fun wz vz => BoxPl wz k2 (.string sa) (.string ⟨#[]⟩) (.string hd)), .e (.bool (ff sa hd).isSome)]) (fun w' => (Below k2 w8 w' ∧ BoxPl w' k4 (.string sa) (.string ⟨#[]⟩) (.string hd) ∧ (∃ c0 c1 c2, BoxPl w' k2 c0 c1 c2) ∧ LinksAt w' lb r.body.length ff)) ⟨Below.drew (Below.refl _ _), X4.out, ⟨_, _, _, X2.out⟩, LK.out⟩ ⟨?s0, ?s1, ?s2, ?s3, ?s4, ?s5, ?s6, ?s7, ?s8, ?s9, ?s10, ?s11, ?s12, ?s13, ?s14, ?s15, trivial⟩ ?fin
    case s0 =>
     intro a w' hoff hg hdep K hK;have h4 := off_at hoff 4 (v := .pointer (some ⟨k4, 0, none⟩)) (by kernel_rfl) rfl;rw [if_pos (by rfl)];obtain ⟨u0, u1, u2⟩ := hg.2.1.cells;go_simp;exact hK.out _ _ hg rfl (fun _ _ h => h)
    case s1 =>
     intro a w' hoff hg hdep K hK;have h4 := off_at hoff 4 (v := .pointer (some ⟨k4, 0, none⟩)) (by kernel_rfl) rfl;rw [if_pos (by rfl)];go_simp;exact hK.out _ _ hg rfl (fun _ _ h => h)
    case s2 =>
     intro a w' hoff hg hdep K hK;obtain ⟨_, e1, rfl⟩ := hdep 1 _ 35 (by kernel_rfl) rfl rfl;rw [if_pos (by rfl)];obtain ⟨u0, u1, u2⟩ := hg.2.1.cells;go_simp;exact hK.out _ _ hg rfl (fun _ _ h => h)
    case s3 =>
     intro a w' hoff hg hdep K hK;have h4 := off_at hoff 4 (v := .pointer (some ⟨k4, 0, none⟩)) (by kernel_rfl) rfl;rw [if_pos (by rfl)];go_simp;exact hK.out _ _ hg rfl (fun _ _ h => h)
    case s4 =>
     intro a w' hoff hg hdep K hK;obtain ⟨_, e3, rfl⟩ := hdep 3 _ 37 (by kernel_rfl) rfl rfl;rw [if_pos (by rfl)];obtain ⟨u0, u1, u2⟩ := hg.2.1.cells;go_simp;exact hK.out _ _ hg rfl (fun _ _ h => h)
    case s5 =>
     intro a w' hoff hg hdep K hK;obtain ⟨_, e2, rfl⟩ := hdep 2 _ 36 (by kernel_rfl) rfl rfl;obtain ⟨_, e4, rfl⟩ := hdep 4 _ 38 (by kernel_rfl) rfl rfl;rw [if_pos (by rfl)];have heq2 := heq;go_simp;exact hK.out _ _ hg rfl (fun _ _ h => h)
    case s6 =>
     intro a w' hoff hg hdep K hK;obtain ⟨_, e5, rfl⟩ := hdep 5 _ 39 (by kernel_rfl) rfl rfl;rw [if_pos (by rfl)];go_simp;exact hK.out _ _ hg rfl (fun _ _ h => h)
    case s7 =>
     intro a w' hoff hg hdep K hK;have h5 := off_at hoff 5 (v := .map (some lb)) (by kernel_rfl) rfl;obtain ⟨_, e6, rfl⟩ := hdep 6 _ 40 (by kernel_rfl) rfl rfl;rw [if_pos (by simp [Region.wanted, yielded, e6])];go_simp;exact hK.out _ _ hg rfl (fun _ _ h => h)
    case s8 =>
     intro a w' hoff hg hdep K hK;have h4 := off_at hoff 4 (v := .pointer (some ⟨k4, 0, none⟩)) (by kernel_rfl) rfl;obtain ⟨_, e6, rfl⟩ := hdep 6 _ 40 (by kernel_rfl) rfl rfl;rw [if_pos (by simp [Region.wanted, yielded, e6])];go_simp;exact hK.out _ _ hg rfl (fun _ _ h => h)
    case s9 =>
     intro a w' hoff hg hdep K hK;obtain ⟨_, e8, rfl⟩ := hdep 8 _ 42 (by kernel_rfl) rfl rfl;obtain ⟨_, e6, rfl⟩ := hdep 6 _ 40 (by kernel_rfl) rfl rfl;rw [if_pos (by simp [Region.wanted, yielded, e6])];obtain ⟨u0, u1, u2⟩ := hg.2.1.cells;go_simp;exact hK.out _ _ hg rfl (fun _ _ h => h)
    case s10 =>
     intro a w' hoff hg hdep K hK;have h4 := off_at hoff 4 (v := .pointer (some ⟨k4, 0, none⟩)) (by kernel_rfl) rfl;obtain ⟨_, e6, rfl⟩ := hdep 6 _ 40 (by kernel_rfl) rfl rfl;rw [if_pos (by simp [Region.wanted, yielded, e6])];go_simp;exact hK.out _ _ hg rfl (fun _ _ h => h)
    case s11 =>
     intro a w' hoff hg hdep K hK;obtain ⟨_, e10, rfl⟩ := hdep 10 _ 44 (by kernel_rfl) rfl rfl;obtain ⟨_, e6, rfl⟩ := hdep 6 _ 40 (by kernel_rfl) rfl rfl;rw [if_pos (by simp [Region.wanted, yielded, e6])];obtain ⟨u0, u1, u2⟩ := hg.2.1.cells;go_simp;exact hK.out _ _ hg rfl (fun _ _ h => h)
    case s12 =>
     intro a w' hoff hg hdep K hK;obtain ⟨_, e7, rfl⟩ := hdep 7 _ 41 (by kernel_rfl) rfl rfl;obtain ⟨_, e9, rfl⟩ := hdep 9 _ 43 (by kernel_rfl) rfl rfl;obtain ⟨_, e11, rfl⟩ := hdep 11 _ 45 (by kernel_rfl) rfl rfl;obtain ⟨_, e6, rfl⟩ := hdep 6 _ 40 (by kernel_rfl) rfl rfl;rw [if_pos (by simp [Region.wanted, yielded, e6])];go_simp;refine (linksHas_any lb _ ff sa hd w' HA0.out T0.out hg.2.2.2).mono ?_;rintro e w2' ⟨rfl, hb⟩;exact hK.out _ _ ⟨below_two hg.1 (hb.mono (Nat.le_of_lt (let ⟨_, _, _, h⟩ := hg.2.2.1; h.lt))), hg.2.1.on hb, (let ⟨c0, c1, c2, h⟩ := hg.2.2.1; ⟨c0, c1, c2, h.on hb⟩), hg.2.2.2.on hb⟩ rfl (fSt ⟨fun _ h => h.on hb, trivial⟩)
    case s13 =>
     intro a w' hoff hg hdep K hK;obtain ⟨_, e6, rfl⟩ := hdep 6 _ 40 (by kernel_rfl) rfl rfl;obtain ⟨_, e12, rfl⟩ := hdep 12 _ 46 (by kernel_rfl) rfl rfl;rw [if_pos (by rfl)];go_simp;exact hK.out _ _ hg rfl (fun _ _ h => h)
    case s14 =>
     intro a w' hoff hg hdep K hK;have h2 := off_at hoff 2 (v := .pointer (some ⟨k2, 0, none⟩)) (by kernel_rfl) rfl;obtain ⟨_, e0, rfl⟩ := hdep 0 _ 34 (by kernel_rfl) rfl rfl;rw [if_pos (by rfl)];obtain ⟨y0, y1, y2, hy⟩ := hg.2.2.1;obtain ⟨t0, t1, t2⟩ := hy.cells;have z0 := frozen_of_row w' k2 0 _ _ hy; have z1 := frozen_of_row w' k2 1 _ _ hy; have z2 := frozen_of_row w' k2 2 _ _ hy
     go_simp;have hn : k4 ≠ k2 := Nat.ne_of_gt K4.out.2;have hbx := hy.set (.string sa) (.string ⟨#[]⟩) (.string hd);exact hK.out _ _ ⟨((hg.1.setCell (p := ⟨k2, 0, none⟩) (Nat.le_refl _) _).setCell (p := ⟨k2, 1, none⟩) (Nat.le_refl _) _).setCell (p := ⟨k2, 2, none⟩) (Nat.le_refl _) _, ((hg.2.1.other hn _ _).other hn _ _).other hn _ _, ⟨_, _, _, hbx⟩, ((hg.2.2.2.set (a := ⟨k2, 0, none⟩) LB2.out _).set (a := ⟨k2, 1, none⟩) LB2.out _).set (a := ⟨k2, 2, none⟩) LB2.out _⟩ hbx (fSt ⟨fun _ _ => hbx, trivial⟩) h2
    case s15 =>
     intro a w' hoff hg hdep K hK;obtain ⟨_, e13, rfl⟩ := hdep 13 _ 47 (by kernel_rfl) rfl rfl;rw [if_pos (by rfl)];go_simp;exact hK.out _ _ hg rfl (fun _ _ h => h)
    case fin =>
     intro a w' hoff hg hf hn;obtain ⟨_, e0, rfl⟩ := hf 0 _ 34 rfl rfl;obtain ⟨_, e1, rfl⟩ := hf 1 _ 35 rfl rfl;obtain ⟨_, e2, rfl⟩ := hf 2 _ 36 rfl rfl;obtain ⟨_, e3, rfl⟩ := hf 3 _ 37 rfl rfl;obtain ⟨_, e4, rfl⟩ := hf 4 _ 38 rfl rfl;obtain ⟨_, e5, rfl⟩ := hf 5 _ 39 rfl rfl;obtain ⟨_, e6, rfl⟩ := hf 6 _ 40 rfl rfl;obtain ⟨_, e7, rfl⟩ := hf 7 _ 41 rfl rfl;obtain ⟨_, e8, rfl⟩ := hf 8 _ 42 rfl rfl;obtain ⟨_, e9, rfl⟩ := hf 9 _ 43 rfl rfl;obtain ⟨_, e10, rfl⟩ := hf 10 _ 44 rfl rfl;obtain ⟨_, e11, rfl⟩ := hf 11 _ 45 rfl rfl;obtain ⟨_, e12, rfl⟩ := hf 12 _ 46 rfl rfl;obtain ⟨_, e13, rfl⟩ := hf 13 _ 47 rfl rfl;obtain ⟨v14, (g14 : BoxPl w' k2 (.string sa) (.string ⟨#[]⟩) (.string hd)), T14⟩ := hn 14 _ rfl rfl;replace T14 := T14 2 rfl;obtain ⟨_, e15, rfl⟩ := hf 15 _ 3 rfl rfl;have HB9 := Lib.hid hg.1;rw [hoff.sets [(34, .agg #[.string sa, .string ⟨#[]⟩, .string hd]), (35, .pointer (some ⟨k4, 2, none⟩)), (36, .string hd), (37, .pointer (some ⟨k4, 0, none⟩)), (38, .string sa), (39, .bool false), (40, .bool false), (41, .map (some lb)), (42, .pointer (some ⟨k4, 0, none⟩)), (43, .string sa), (44, .pointer (some ⟨k4, 2, none⟩)), (45, .string hd), (46, .bool (ff sa hd).isSome), (47, .bool (ff sa hd).isSome), (3, .bool (ff sa hd).isSome)] (by kernel_rfl) (by intro p hp; simp only [List.mem_cons, List.not_mem_nil, or_false] at hp; rcases hp with rfl | rfl | rfl | rfl | rfl | rfl | rfl | rfl | rfl | rfl | rfl | rfl | rfl | rfl | rfl <;> assumption)];clear hoff hf hn e0 e1 e2 e3 e4 e5 e6 e7 e8 e9 e10 e11 e12 e13 e15 T14;simp only [List.foldl_cons, List.foldl_nil, List.setIfInBounds_toArray, List.set_cons_zero, List.set_cons_succ]
     go_wp2_with fail
     obtain ⟨t0, t1, t2⟩ := g14.cells;refine bodyPost_ret (v := .tuple #[.agg #[.string sa, .string ⟨#[]⟩, .string hd], .bool (ff sa hd).isSome]) (by simp [results, Tryz.results37, go_sem, t0, t1, t2]) rfl ⟨?_, below_two B2.out (HB9.out.mono (Nat.le_of_lt K4.out.1))⟩;rw [HE2.out]; rfl
  case cons.cons.nil =>
   obtain ⟨-, -, qb, qo, rfl, hqb, c, hc, hcx⟩ := SlG.at PV.out 0 (by simp);obtain ⟨-, -, qb', qo', hqq, -, c', hc', hcx'⟩ := SlG.at PV.out 1 (by simp);obtain ⟨rfl, rfl⟩ : qb = qb' ∧ qo = qo' := by simpa using hqq
   have Q0 : Hid (w7.cell? ⟨qb, qo, none⟩ = some (.string sa)) := by show _ = _; have h := hc 0 (by omega); rw [hcx] at h; simpa using h
   have Q1 : Hid (w7.cell? ⟨qb, qo + 1, none⟩ = some (.string sb)) := by show _ = _; have h := hc' 0 (by omega); rw [hcx'] at h; simpa using h
   have K4L := Lib.hid X4.out.lt;have QB : Hid (qb < w7.heap.size) := hqb.2;have HA0 := Lib.hid (HSZ.out sa (by simp)); have HB0 := Lib.hid (HSZ.out sb (by simp))
   obtain ⟨x1, x2, ok, hbz⟩ : ∃ x1 x2 ok, betweenZ ff sa sb = (x1, x2, ok) := ⟨_, _, _, rfl⟩;have HBZ : Hid (wayRet (betweenZ ff sa sb) = .returned (.tuple #[.agg #[.string x1, .string x2], .bool ok])) := by show _ = _; rw [hbz]; rfl
   have HE2 : Hid (bodyPlaceZ r = (⟨x1, x2, hd⟩, ok && inB [sa, sb] hd)) := by show _ = _; rw [HE.out, placeFrom, hbz]
   clear hc hcx hc' hcx' hqq hbz hqb;go_upto_region 11 with fail
   refine wp_region_factsU (by rfl) 76 (by rfl) (by kernel_rfl) (FA [.e (.map (some lb)), .e (.slice (some ⟨qb, qo, none⟩) 2 pc), .e (.pointer (some ⟨qb, qo, none⟩)), .e (.string sa), .e (.slice (some ⟨qb, qo, none⟩) 2 pc), .e (.pointer (some ⟨qb, qo + 1, none⟩)), .e (.string sb), .e (.tuple #[.agg #[.string x1, .string x2], .bool ok]), .e (.tuple #[.agg #[.string x1, .string x2], .bool ok]), .e (.agg #[.string x1, .string x2]), .e (.bool ok), .p (fun wz vz => ∃ q, vz = .pointer (some ⟨q, 0, none⟩) ∧ w7.heap.size ≤ q ∧ ∃ c0 c1, BoxW wz q c0 c1), .p (fun wz vz => ∃ q, vz = .pointer (some ⟨q, 0, none⟩) ∧ w7.heap.size ≤ q ∧ BoxW wz q (.string x1) (.string x2)), .e (.bool ok)]) (fun w' => Below w7.heap.size w7 w') (Below.drew (Below.refl _ _)) ⟨?s0, ?s1, ?s2, ?s3, ?s4, ?s5, ?s6, ?s7, ?s8, ?s9, ?s10, ?s11, ?s12, ?s13, trivial⟩ ?fin
   case s0 =>
    intro a w' hoff hg hdep K hK;have h5 := off_at hoff 5 (v := .map (some lb)) (by kernel_rfl) rfl;rw [if_pos (by rfl)];go_simp;exact hK.out _ _ hg rfl (fun _ _ h => h)
   case s1 =>
    intro a w' hoff hg hdep K hK;have h6 := off_at hoff 6 (v := .slice (some ⟨qb, qo, none⟩) 2 pc) (by kernel_rfl) rfl;rw [if_pos (by rfl)];go_simp;exact hK.out _ _ hg rfl (fun _ _ h => h)
   case s2 =>
    intro a w' hoff hg hdep K hK;obtain ⟨_, e1, rfl⟩ := hdep 1 _ 52 (by kernel_rfl) rfl rfl;rw [if_pos (by rfl)];go_simp;exact hK.out _ _ hg rfl (fun _ _ h => h)
   case s3 =>
    intro a w' hoff hg hdep K hK;obtain ⟨_, e2, rfl⟩ := hdep 2 _ 53 (by kernel_rfl) rfl rfl;rw [if_pos (by rfl)];have q0 := (hg.cell (p := ⟨qb, qo, none⟩) QB.out).trans Q0.out;go_simp;exact hK.out _ _ hg rfl (fun _ _ h => h)
   case s4 =>
    intro a w' hoff hg hdep K hK;have h6 := off_at hoff 6 (v := .slice (some ⟨qb, qo, none⟩) 2 pc) (by kernel_rfl) rfl;rw [if_pos (by rfl)];go_simp;exact hK.out _ _ hg rfl (fun _ _ h => h)
   case s5 =>
    intro a w' hoff hg hdep K hK;obtain ⟨_, e4, rfl⟩ := hdep 4 _ 55 (by kernel_rfl) rfl rfl;rw [if_pos (by rfl)];go_simp;exact hK.out _ _ hg rfl (fun _ _ h => h)
   case s6 =>
    intro a w' hoff hg hdep K hK;obtain ⟨_, e5, rfl⟩ := hdep 5 _ 56 (by kernel_rfl) rfl rfl;rw [if_pos (by rfl)];have q1 := (hg.cell (p := ⟨qb, qo + 1, none⟩) QB.out).trans Q1.out;go_simp;exact hK.out _ _ hg rfl (fun _ _ h => h)
   case s7 =>
    intro a w' hoff hg hdep K hK;obtain ⟨_, e0, rfl⟩ := hdep 0 _ 51 (by kernel_rfl) rfl rfl;obtain ⟨_, e3, rfl⟩ := hdep 3 _ 54 (by kernel_rfl) rfl rfl;obtain ⟨_, e6, rfl⟩ := hdep 6 _ 57 (by kernel_rfl) rfl rfl;rw [if_pos (by rfl)];go_simp;refine (between_any lb _ ff sa sb w' HA0.out HB0.out (LK.out.on hg)).mono ?_;rintro e w2' ⟨rfl, hb⟩;rw [HBZ.out];exact hK.out _ _ (Below.step hg hb) rfl (fSt ⟨fun _ h => let ⟨q, e, h1, c0, c1, h2⟩ := h; ⟨q, e, h1, c0, c1, h2.on hb⟩, fun _ h => let ⟨q, e, h1, h2⟩ := h; ⟨q, e, h1, h2.on hb⟩, trivial⟩)
   case s8 =>
    intro a w' hoff hg hdep K hK;obtain ⟨_, e7, rfl⟩ := hdep 7 _ 58 (by kernel_rfl) rfl rfl;rw [if_pos (by rfl)];go_simp;exact hK.out _ _ hg rfl (fun _ _ h => h)
   case s9 =>
    intro a w' hoff hg hdep K hK;obtain ⟨_, e8, rfl⟩ := hdep 8 _ 50 (by kernel_rfl) rfl rfl;rw [if_pos (by rfl)];go_simp;exact hK.out _ _ hg rfl (fun _ _ h => h)
   case s10 =>
    intro a w' hoff hg hdep K hK;obtain ⟨_, e8, rfl⟩ := hdep 8 _ 50 (by kernel_rfl) rfl rfl;rw [if_pos (by rfl)];go_simp;exact hK.out _ _ hg rfl (fun _ _ h => h)
   case s11 =>
    intro a w' hoff hg hdep K hK;rw [if_pos (by rfl)];go_simp;have hb := below_alloc w' (.cells #[.string ⟨#[]⟩, .string ⟨#[]⟩] 114);exact hK.out _ _ (Below.step hg hb) ⟨_, rfl, hg.size, _, _, alloc_new' w' _⟩ (fSt ⟨fun _ h => let ⟨q, e, h1, c0, c1, h2⟩ := h; ⟨q, e, h1, c0, c1, h2.on hb⟩, fun _ h => let ⟨q, e, h1, h2⟩ := h; ⟨q, e, h1, h2.on hb⟩, trivial⟩)
   case s12 =>
    intro a w' hoff hg hdep K hK;obtain ⟨v11, e11, (g11 : ∃ q, v11 = .pointer (some ⟨q, 0, none⟩) ∧ w7.heap.size ≤ q ∧ ∃ c0 c1, BoxW w' q c0 c1)⟩ := hdep 11 _ 7 (by kernel_rfl) rfl rfl;obtain ⟨_, e9, rfl⟩ := hdep 9 _ 59 (by kernel_rfl) rfl rfl;rw [if_pos (by rfl)];obtain ⟨q, rfl, hq, c0, c1, hbx⟩ := g11;obtain ⟨t0, t1⟩ := hbx.cells;have z0 := frozen_of_row w' q 0 _ _ hbx; have z1 := frozen_of_row w' q 1 _ _ hbx
    have e7 := e11;go_simp;have hb2 := hbx.set (.string x1) (.string x2);exact hK.out _ _ ((hg.setCell (p := ⟨q, 0, none⟩) hq _).setCell (p := ⟨q, 1, none⟩) hq _) ⟨q, rfl, hq, hb2⟩ (fSt ⟨fun _ h => (let ⟨p, e, h1, d0, d1, h2⟩ := h; match Nat.decEq p q with | .isTrue hp => ⟨p, e, h1, .string x1, .string x2, (by rw [hp]; exact hb2)⟩ | .isFalse hp => ⟨p, e, h1, d0, d1, (h2.other hp _ _).other hp _ _⟩), fun _ h => (let ⟨p, e, h1, h2⟩ := h; match Nat.decEq p q with | .isTrue hp => ⟨p, e, h1, (by rw [hp]; exact hb2)⟩ | .isFalse hp => ⟨p, e, h1, (h2.other hp _ _).other hp _ _⟩), trivial⟩) e7
   case s13 =>
    intro a w' hoff hg hdep K hK;obtain ⟨_, e10, rfl⟩ := hdep 10 _ 60 (by kernel_rfl) rfl rfl;rw [if_pos (by rfl)];go_simp;exact hK.out _ _ hg rfl (fun _ _ h => h)
   case fin =>
    intro a w' hoff hg hf hn;obtain ⟨_, e0, rfl⟩ := hf 0 _ 51 rfl rfl;obtain ⟨_, e1, rfl⟩ := hf 1 _ 52 rfl rfl;obtain ⟨_, e2, rfl⟩ := hf 2 _ 53 rfl rfl;obtain ⟨_, e3, rfl⟩ := hf 3 _ 54 rfl rfl;obtain ⟨_, e4, rfl⟩ := hf 4 _ 55 rfl rfl;obtain ⟨_, e5, rfl⟩ := hf 5 _ 56 rfl rfl;obtain ⟨_, e6, rfl⟩ := hf 6 _ 57 rfl rfl;obtain ⟨_, e7, rfl⟩ := hf 7 _ 58 rfl rfl;obtain ⟨_, e8, rfl⟩ := hf 8 _ 50 rfl rfl;obtain ⟨_, e9, rfl⟩ := hf 9 _ 59 rfl rfl;obtain ⟨_, e10, rfl⟩ := hf 10 _ 60 rfl rfl;obtain ⟨v11, e11, (g11 : ∃ q, v11 = .pointer (some ⟨q, 0, none⟩) ∧ w7.heap.size ≤ q ∧ ∃ c0 c1, BoxW w' q c0 c1)⟩ := hf 11 _ 7 rfl rfl;obtain ⟨v12, (g12 : ∃ q, v12 = .pointer (some ⟨q, 0, none⟩) ∧ w7.heap.size ≤ q ∧ BoxW w' q (.string x1) (.string x2)), T12⟩ := hn 12 _ rfl rfl;replace T12 := T12 7 rfl;obtain ⟨_, e13, rfl⟩ := hf 13 _ 8 rfl rfl;obtain ⟨q, rfl, hq, hbx⟩ := g12;obtain rfl : v11 = .pointer (some ⟨q, 0, none⟩) := Option.some.inj (e11.symm.trans T12);clear g11;rw [hoff.sets [(51, .map (some lb)), (52, .slice (some ⟨qb, qo, none⟩) 2 pc), (53, .pointer (some ⟨qb, qo, none⟩)), (54, .string sa), (55, .slice (some ⟨qb, qo, none⟩) 2 pc), (56, .pointer (some ⟨qb, qo + 1, none⟩)), (57, .string sb), (58, .tuple #[.agg #[.string x1, .string x2], .bool ok]), (50, .tuple #[.agg #[.string x1, .string x2], .bool ok]), (59, .agg #[.string x1, .string x2]), (60, .bool ok), (7, .pointer (some ⟨q, 0, none⟩)), (8, .bool ok)] (by kernel_rfl) (by intro p hp; simp only [List.mem_cons, List.not_mem_nil, or_false] at hp; rcases hp with rfl | rfl | rfl | rfl | rfl | rfl | rfl | rfl | rfl | rfl | rfl | rfl | rfl <;> assumption)];clear hoff hf hn e0 e1 e2 e3 e4 e5 e6 e7 e8 e9 e10 e11 e13 T12;simp only [List.foldl_cons, List.foldl_nil, List.setIfInBounds_toArray, List.set_cons_zero, List.set_cons_succ]
    replace X2 := Lib.hid (X2.out.on hg); replace X4 := Lib.hid (X4.out.on hg); replace B2 := Lib.hid (Below.step B2.out hg)
    have KQ : Hid (k4 < q) := Nat.lt_of_lt_of_le K4L.out hq;have W9 := Lib.hid hbx;have P9 := Lib.hid (PV.out.on (fun _ h => h) (fun j hj => hg.block j hj.2));have PS := Lib.hid hg.size;clear hg hbx hq;clear PV Q0 Q1 QB K4L;go_wp2_with fail
    refine wp_region_factsU (by rfl) 76 (by rfl) (by kernel_rfl) (FA [.e (.pointer (some ⟨q, 0, none⟩)), .e (.string x1), .e (.pointer (some ⟨q, 1, none⟩)), .e (.string x2), .e (.pointer (some ⟨k4, 0, none⟩)), .p (fun wz vz => ∃ d, BoxPl wz k4 (.string x1) d (.string hd)), .e (.pointer (some ⟨k4, 1, none⟩)), .p (fun wz vz => ∃ d, BoxPl wz k4 d (.string x2) (.string hd))]) (fun w' => ((∃ d0 d1, BoxPl w' k4 d0 d1 (.string hd)) ∧ BoxW w' q (.string x1) (.string x2) ∧ BoxPl w' k2 (.string ⟨#[]⟩) (.string ⟨#[]⟩) (.string ⟨#[]⟩) ∧ TxAt (fun b => w6.heap.size ≤ b ∧ b < w7.heap.size) w' [sa, sb] (.slice (some ⟨qb, qo, none⟩) 2 pc) ∧ Below w.heap.size w w' ∧ w7.heap.size ≤ w'.heap.size)) ⟨⟨_, _, X4.out⟩, W9.out, X2.out, P9.out, below_two B2.out (Below.drew (Below.refl _ _)), PS.out⟩ ⟨?s0, ?s1, ?s2, ?s3, ?s4, ?s5, ?s6, ?s7, trivial⟩ ?fin
    case s0 =>
     intro a w' hoff hg hdep K hK;have h7 := off_at hoff 7 (v := .pointer (some ⟨q, 0, none⟩)) (by kernel_rfl) rfl;rw [if_pos (by rfl)];go_simp;exact hK.out _ _ hg rfl (fun _ _ h => h)
    case s1 =>
     intro a w' hoff hg hdep K hK;obtain ⟨_, e0, rfl⟩ := hdep 0 _ 61 (by kernel_rfl) rfl rfl;rw [if_pos (by rfl)];obtain ⟨t0, t1⟩ := hg.2.1.cells;go_simp;exact hK.out _ _ hg rfl (fun _ _ h => h)
    case s2 =>
     intro a w' hoff hg hdep K hK;have h7 := off_at hoff 7 (v := .pointer (some ⟨q, 0, none⟩)) (by kernel_rfl) rfl;rw [if_pos (by rfl)];go_simp;exact hK.out _ _ hg rfl (fun _ _ h => h)
    case s3 =>
     intro a w' hoff hg hdep K hK;obtain ⟨_, e2, rfl⟩ := hdep 2 _ 63 (by kernel_rfl) rfl rfl;rw [if_pos (by rfl)];obtain ⟨t0, t1⟩ := hg.2.1.cells;go_simp;exact hK.out _ _ hg rfl (fun _ _ h => h)
    case s4 =>
     intro a w' hoff hg hdep K hK;have h4 := off_at hoff 4 (v := .pointer (some ⟨k4, 0, none⟩)) (by kernel_rfl) rfl;rw [if_pos (by rfl)];go_simp;exact hK.out _ _ hg rfl (fun _ _ h => h)
    case s5 =>
     intro a w' hoff hg hdep K hK;obtain ⟨_, e1, rfl⟩ := hdep 1 _ 62 (by kernel_rfl) rfl rfl;obtain ⟨_, e4, rfl⟩ := hdep 4 _ 65 (by kernel_rfl) rfl rfl;rw [if_pos (by rfl)];obtain ⟨y0, y1, hy⟩ := hg.1;obtain ⟨u0, u1, u2⟩ := hy.cells;have z0 := frozen_of_row w' k4 0 _ _ hy;have e9 := e4;go_simp;have hb2 := hy.set0 (.string x1);exact hK.out _ _ ⟨⟨_, _, hb2⟩, hg.2.1.other (Nat.ne_of_gt KQ.out) _ _, hg.2.2.1.other (Nat.ne_of_lt K4.out.2) _ _, hg.2.2.2.1.on (fun _ h => h) (fun b hb => Below.heap_setCell _ _ _ _ (Nat.ne_of_gt (Nat.lt_of_lt_of_le K46.out hb.1))), hg.2.2.2.2.1.setCell (p := ⟨k4, 0, none⟩) (Nat.le_of_lt (Nat.lt_trans K4.out.1 K4.out.2)) _, by simpa [World.setCell] using hg.2.2.2.2.2⟩ ⟨_, hb2⟩ (fSt ⟨fun _ h => let ⟨d, h⟩ := h; ⟨_, hb2⟩, fun _ h => let ⟨d, h⟩ := h; ⟨_, h.set0 _⟩, trivial⟩) e9
    case s6 =>
     intro a w' hoff hg hdep K hK;have h4 := off_at hoff 4 (v := .pointer (some ⟨k4, 0, none⟩)) (by kernel_rfl) rfl;rw [if_pos (by rfl)];go_simp;exact hK.out _ _ hg rfl (fun _ _ h => h)
    case s7 =>
     intro a w' hoff hg hdep K hK;obtain ⟨_, e3, rfl⟩ := hdep 3 _ 64 (by kernel_rfl) rfl rfl;obtain ⟨_, e6, rfl⟩ := hdep 6 _ 66 (by kernel_rfl) rfl rfl;rw [if_pos (by rfl)];obtain ⟨y0, y1, hy⟩ := hg.1;obtain ⟨u0, u1, u2⟩ := hy.cells;have z0 := frozen_of_row w' k4 1 _ _ hy;have e9 := e6;go_simp;have hb2 := hy.set1 (.string x2);exact hK.out _ _ ⟨⟨_, _, hb2⟩, hg.2.1.other (Nat.ne_of_gt KQ.out) _ _, hg.2.2.1.other (Nat.ne_of_lt K4.out.2) _ _, hg.2.2.2.1.on (fun _ h => h) (fun b hb => Below.heap_setCell _ _ _ _ (Nat.ne_of_gt (Nat.lt_of_lt_of_le K46.out hb.1))), hg.2.2.2.2.1.setCell (p := ⟨k4, 1, none⟩) (Nat.le_of_lt (Nat.lt_trans K4.out.1 K4.out.2)) _, by simpa [World.setCell] using hg.2.2.2.2.2⟩ ⟨_, hb2⟩ (fSt ⟨fun _ h => let ⟨d, h⟩ := h; ⟨_, h.set1 _⟩, fun _ h => let ⟨d, h⟩ := h; ⟨_, hb2⟩, trivial⟩) e9
    case fin =>
     intro a w' hoff hg hf hn;obtain ⟨_, e0, rfl⟩ := hf 0 _ 61 rfl rfl;obtain ⟨_, e1, rfl⟩ := hf 1 _ 62 rfl rfl;obtain ⟨_, e2, rfl⟩ := hf 2 _ 63 rfl rfl;obtain ⟨_, e3, rfl⟩ := hf 3 _ 64 rfl rfl;obtain ⟨_, e4, rfl⟩ := hf 4 _ 65 rfl rfl;obtain ⟨v5, (g5 : ∃ d, BoxPl w' k4 (.string x1) d (.string hd)), T5⟩ := hn 5 _ rfl rfl;replace T5 := T5 65 rfl;obtain ⟨_, e6, rfl⟩ := hf 6 _ 66 rfl rfl;obtain ⟨v7, (g7 : ∃ d, BoxPl w' k4 d (.string x2) (.string hd)), T7⟩ := hn 7 _ rfl rfl;replace T7 := T7 66 rfl;obtain ⟨d5, hd5⟩ := g5;obtain ⟨d7, hd7⟩ := g7;have hdd := hd5.symm.trans hd7;obtain ⟨rfl, rfl⟩ : Value.string x1 = d7 ∧ d5 = .string x2 := by simpa using (Array.mk.inj (Obj.cells.inj (Option.some.inj hdd)).1)
     replace X4 := Lib.hid hd5;replace X2 := Lib.hid hg.2.2.1; replace P9 := Lib.hid hg.2.2.2.1; replace B2 := Lib.hid hg.2.2.2.2.1; replace PS := Lib.hid hg.2.2.2.2.2
     clear hdd hd7 hd5 hg W9;rw [hoff.sets [(61, .pointer (some ⟨q, 0, none⟩)), (62, .string x1), (63, .pointer (some ⟨q, 1, none⟩)), (64, .string x2), (65, .pointer (some ⟨k4, 0, none⟩)), (66, .pointer (some ⟨k4, 1, none⟩))] (by kernel_rfl) (by intro p hp; simp only [List.mem_cons, List.not_mem_nil, or_false] at hp; rcases hp with rfl | rfl | rfl | rfl | rfl | rfl <;> assumption)];clear hoff hf hn e0 e1 e2 e3 e4 e6 T5 T7;simp only [List.foldl_cons, List.foldl_nil, List.setIfInBounds_toArray, List.set_cons_zero, List.set_cons_succ]
     skip
     cases ok with
     | true =>
      go_wp2_with fail
      refine wp_region_factsU (by rfl) 76 (by rfl) (by kernel_rfl) (FA [.e (.agg #[.string x1, .string x2, .string hd]), .e (.bool true), .e (.bool true), .e (.slice (some ⟨qb, qo, none⟩) 2 pc), .e (.pointer (some ⟨k4, 2, none⟩)), .e (.string hd), .e (.bool (inB [sa, sb] hd)), .e (.bool (inB [sa, sb] hd)), .p (fun wz vz => BoxPl wz k2 (.string x1) (.string x2) (.string hd)), .e (.bool (inB [sa, sb] hd))]) (fun w' => (BoxPl w' k4 (.string x1) (.string x2) (.string hd) ∧ (∃ c0 c1 c2, BoxPl w' k2 c0 c1 c2) ∧ TxAt (fun b => w6.heap.size ≤ b ∧ b < w7.heap.size) w' [sa, sb] (.slice (some ⟨qb, qo, none⟩) 2 pc) ∧ Below w.heap.size w w' ∧ w7.heap.size ≤ w'.heap.size)) ⟨X4.out, ⟨_, _, _, X2.out⟩, P9.out, below_two B2.out (Below.drew (Below.refl _ _)), PS.out⟩ ⟨?s0, ?s1, ?s2, ?s3, ?s4, ?s5, ?s6, ?s7, ?s8, ?s9, trivial⟩ ?fin
      case s0 =>
       intro a w' hoff hg hdep K hK;have h4 := off_at hoff 4 (v := .pointer (some ⟨k4, 0, none⟩)) (by kernel_rfl) rfl;rw [if_pos (by rfl)];obtain ⟨u0, u1, u2⟩ := hg.1.cells;go_simp;exact hK.out _ _ hg rfl (fun _ _ h => h)
      case s1 =>
       intro a w' hoff hg hdep K hK;have h8 := off_at hoff 8 (v := .bool true) (by kernel_rfl) rfl;rw [if_pos (by rfl)];go_simp;exact hK.out _ _ hg rfl (fun _ _ h => h)
      case s2 =>
       intro a w' hoff hg hdep K hK;obtain ⟨_, e1, rfl⟩ := hdep 1 _ 68 (by kernel_rfl) rfl rfl;rw [if_pos (by rfl)];go_simp;exact hK.out _ _ hg rfl (fun _ _ h => h)
      case s3 =>
       intro a w' hoff hg hdep K hK;have h6 := off_at hoff 6 (v := .slice (some ⟨qb, qo, none⟩) 2 pc) (by kernel_rfl) rfl;obtain ⟨_, e2, rfl⟩ := hdep 2 _ 69 (by kernel_rfl) rfl rfl;rw [if_pos (by simp [Region.wanted, yielded, e2])];go_simp;exact hK.out _ _ hg rfl (fun _ _ h => h)
      case s4 =>
       intro a w' hoff hg hdep K hK;have h4 := off_at hoff 4 (v := .pointer (some ⟨k4, 0, none⟩)) (by kernel_rfl) rfl;obtain ⟨_, e2, rfl⟩ := hdep 2 _ 69 (by kernel_rfl) rfl rfl;rw [if_pos (by simp [Region.wanted, yielded, e2])];go_simp;exact hK.out _ _ hg rfl (fun _ _ h => h)
      case s5 =>
       intro a w' hoff hg hdep K hK;obtain ⟨_, e4, rfl⟩ := hdep 4 _ 71 (by kernel_rfl) rfl rfl;obtain ⟨_, e2, rfl⟩ := hdep 2 _ 69 (by kernel_rfl) rfl rfl;rw [if_pos (by simp [Region.wanted, yielded, e2])];obtain ⟨u0, u1, u2⟩ := hg.1.cells;go_simp;exact hK.out _ _ hg rfl (fun _ _ h => h)
      case s6 =>
       intro a w' hoff hg hdep K hK;obtain ⟨_, e3, rfl⟩ := hdep 3 _ 70 (by kernel_rfl) rfl rfl;obtain ⟨_, e5, rfl⟩ := hdep 5 _ 72 (by kernel_rfl) rfl rfl;obtain ⟨_, e2, rfl⟩ := hdep 2 _ 69 (by kernel_rfl) rfl rfl;rw [if_pos (by simp [Region.wanted, yielded, e2])];go_simp;refine (contains_any [sa, sb] hd (fun b => w6.heap.size ≤ b ∧ b < w7.heap.size) w' _ (fun b hb => Nat.lt_of_lt_of_le hb.2 hg.2.2.2.2) hg.2.2.1).mono ?_;rintro e w2' ⟨rfl, hb⟩;exact hK.out _ _ ⟨hg.1.on hb, (let ⟨c0, c1, c2, h⟩ := hg.2.1; ⟨c0, c1, c2, h.on hb⟩), hg.2.2.1.on (fun _ h => h) (fun b hb2 => hb.block b (Nat.lt_of_lt_of_le hb2.2 hg.2.2.2.2)), Below.step hg.2.2.2.1 hb, Nat.le_trans hg.2.2.2.2 hb.size⟩ rfl (fSt ⟨fun _ h => h.on hb, trivial⟩)
      case s7 =>
       intro a w' hoff hg hdep K hK;obtain ⟨_, e2, rfl⟩ := hdep 2 _ 69 (by kernel_rfl) rfl rfl;obtain ⟨_, e6, rfl⟩ := hdep 6 _ 73 (by kernel_rfl) rfl rfl;rw [if_pos (by rfl)];go_simp;exact hK.out _ _ hg rfl (fun _ _ h => h)
      case s8 =>
       intro a w' hoff hg hdep K hK;have h2 := off_at hoff 2 (v := .pointer (some ⟨k2, 0, none⟩)) (by kernel_rfl) rfl;obtain ⟨_, e0, rfl⟩ := hdep 0 _ 67 (by kernel_rfl) rfl rfl;rw [if_pos (by rfl)];obtain ⟨y0, y1, y2, hy⟩ := hg.2.1;obtain ⟨t0, t1, t2⟩ := hy.cells;have z0 := frozen_of_row w' k2 0 _ _ hy; have z1 := frozen_of_row w' k2 1 _ _ hy; have z2 := frozen_of_row w' k2 2 _ _ hy
       go_simp;have hn : k4 ≠ k2 := Nat.ne_of_gt K4.out.2;have hbx := hy.set (.string x1) (.string x2) (.string hd);exact hK.out _ _ ⟨((hg.1.other hn _ _).other hn _ _).other hn _ _, ⟨_, _, _, hbx⟩, hg.2.2.1.on (fun _ h => h) (fun b hb => by have h6 := Nat.ne_of_gt (Nat.lt_trans K4.out.2 (Nat.lt_of_lt_of_le K46.out hb.1)); rw [Below.heap_setCell _ _ _ _ h6, Below.heap_setCell _ _ _ _ h6, Below.heap_setCell _ _ _ _ h6]), ((hg.2.2.2.1.setCell (p := ⟨k2, 0, none⟩) (Nat.le_of_lt K4.out.1) _).setCell (p := ⟨k2, 1, none⟩) (Nat.le_of_lt K4.out.1) _).setCell (p := ⟨k2, 2, none⟩) (Nat.le_of_lt K4.out.1) _, by simpa [World.setCell] using hg.2.2.2.2⟩ hbx (fSt ⟨fun _ _ => hbx, trivial⟩) h2
      case s9 =>
       intro a w' hoff hg hdep K hK;obtain ⟨_, e7, rfl⟩ := hdep 7 _ 74 (by kernel_rfl) rfl rfl;rw [if_pos (by rfl)];go_simp;exact hK.out _ _ hg rfl (fun _ _ h => h)
      case fin =>
       intro a w' hoff hg hf hn;obtain ⟨_, e0, rfl⟩ := hf 0 _ 67 rfl rfl;obtain ⟨_, e1, rfl⟩ := hf 1 _ 68 rfl rfl;obtain ⟨_, e2, rfl⟩ := hf 2 _ 69 rfl rfl;obtain ⟨_, e3, rfl⟩ := hf 3 _ 70 rfl rfl;obtain ⟨_, e4, rfl⟩ := hf 4 _ 71 rfl rfl;obtain ⟨_, e5, rfl⟩ := hf 5 _ 72 rfl rfl;obtain ⟨_, e6, rfl⟩ := hf 6 _ 73 rfl rfl;obtain ⟨_, e7, rfl⟩ := hf 7 _ 74 rfl rfl;obtain ⟨v8, (g8 : BoxPl w' k2 (.string x1) (.string x2) (.string hd)), T8⟩ := hn 8 _ rfl rfl;replace T8 := T8 2 rfl;obtain ⟨_, e9, rfl⟩ := hf 9 _ 3 rfl rfl;have HB9 := Lib.hid hg.2.2.2.1;rw [hoff.sets [(67, .agg #[.string x1, .string x2, .string hd]), (68, .bool true), (69, .bool true), (70, .slice (some ⟨qb, qo, none⟩) 2 pc), (71, .pointer (some ⟨k4, 2, none⟩)), (72, .string hd), (73, .bool (inB [sa, sb] hd)), (74, .bool (inB [sa, sb] hd)), (3, .bool (inB [sa, sb] hd))] (by kernel_rfl) (by intro p hp; simp only [List.mem_cons, List.not_mem_nil, or_false] at hp; rcases hp with rfl | rfl | rfl | rfl | rfl | rfl | rfl | rfl | rfl <;> assumption)];clear hoff hf hn e0 e1 e2 e3 e4 e5 e6 e7 e9 T8;simp only [List.foldl_cons, List.foldl_nil, List.setIfInBounds_toArray, List.set_cons_zero, List.set_cons_succ]
       go_wp2_with fail
       obtain ⟨t0, t1, t2⟩ := g8.cells;refine bodyPost_ret (v := .tuple #[.agg #[.string x1, .string x2, .string hd], .bool (inB [sa, sb] hd)]) (by simp [results, Tryz.results37, go_sem, t0, t1, t2]) rfl ⟨?_, HB9.out⟩;rw [HE2.out]; rfl
     | false =>
      go_wp2_with fail
      refine wp_region_factsU (by rfl) 76 (by rfl) (by kernel_rfl) (FA [.e (.agg #[.string x1, .string x2, .string hd]), .e (.bool false), .e (.bool false), .o, .o, .o, .o, .e (.bool false), .p (fun wz vz => BoxPl wz k2 (.string x1) (.string x2) (.string hd)), .e (.bool false)]) (fun w' => (BoxPl w' k4 (.string x1) (.string x2) (.string hd) ∧ (∃ c0 c1 c2, BoxPl w' k2 c0 c1 c2) ∧ TxAt (fun b => w6.heap.size ≤ b ∧ b < w7.heap.size) w' [sa, sb] (.slice (some ⟨qb, qo, none⟩) 2 pc) ∧ Below w.heap.size w w' ∧ w7.heap.size ≤ w'.heap.size)) ⟨X4.out, ⟨_, _, _, X2.out⟩, P9.out, below_two B2.out (Below.drew (Below.refl _ _)), PS.out⟩ ⟨?s0, ?s1, ?s2, ?s3, ?s4, ?s5, ?s6, ?s7, ?s8, ?s9, trivial⟩ ?fin
      case s0 =>
       intro a w' hoff hg hdep K hK;have h4 := off_at hoff 4 (v := .pointer (some ⟨k4, 0, none⟩)) (by kernel_rfl) rfl;rw [if_pos (by rfl)];obtain ⟨u0, u1, u2⟩ := hg.1.cells;go_simp;exact hK.out _ _ hg rfl (fun _ _ h => h)
      case s1 =>
       intro a w' hoff hg hdep K hK;have h8 := off_at hoff 8 (v := .bool false) (by kernel_rfl) rfl;rw [if_pos (by rfl)];go_simp;exact hK.out _ _ hg rfl (fun _ _ h => h)
      case s2 =>
       intro a w' hoff hg hdep K hK;obtain ⟨_, e1, rfl⟩ := hdep 1 _ 68 (by kernel_rfl) rfl rfl;rw [if_pos (by rfl)];go_simp;exact hK.out _ _ hg rfl (fun _ _ h => h)
      case s3 =>
       intro a w' hoff hg hdep K hK;have h6 := off_at hoff 6 (v := .slice (some ⟨qb, qo, none⟩) 2 pc) (by kernel_rfl) rfl;obtain ⟨_, e2, rfl⟩ := hdep 2 _ 69 (by kernel_rfl) rfl rfl;rw [if_neg (by simp [Region.wanted, yielded, e2])];exact hK.out _ _ hg trivial (fun _ _ h => h)
      case s4 =>
       intro a w' hoff hg hdep K hK;have h4 := off_at hoff 4 (v := .pointer (some ⟨k4, 0, none⟩)) (by kernel_rfl) rfl;obtain ⟨_, e2, rfl⟩ := hdep 2 _ 69 (by kernel_rfl) rfl rfl;rw [if_neg (by simp [Region.wanted, yielded, e2])];exact hK.out _ _ hg trivial (fun _ _ h => h)
      case s5 =>
       intro a w' hoff hg hdep K hK;obtain ⟨v4, e4, -⟩ := hdep 4 _ 71 (by kernel_rfl) rfl rfl;obtain ⟨_, e2, rfl⟩ := hdep 2 _ 69 (by kernel_rfl) rfl rfl;rw [if_neg (by simp [Region.wanted, yielded, e2])];exact hK.out _ _ hg trivial (fun _ _ h => h)
      case s6 =>
       intro a w' hoff hg hdep K hK;obtain ⟨v3, e3, -⟩ := hdep 3 _ 70 (by kernel_rfl) rfl rfl;obtain ⟨v5, e5, -⟩ := hdep 5 _ 72 (by kernel_rfl) rfl rfl;obtain ⟨_, e2, rfl⟩ := hdep 2 _ 69 (by kernel_rfl) rfl rfl;rw [if_neg (by simp [Region.wanted, yielded, e2])];exact hK.out _ _ hg trivial (fun _ _ h => h)
      case s7 =>
       intro a w' hoff hg hdep K hK;obtain ⟨_, e2, rfl⟩ := hdep 2 _ 69 (by kernel_rfl) rfl rfl;obtain ⟨v6, e6, -⟩ := hdep 6 _ 73 (by kernel_rfl) rfl rfl;rw [if_pos (by rfl)];go_simp;exact hK.out _ _ hg rfl (fun _ _ h => h)
      case s8 =>
       intro a w' hoff hg hdep K hK;have h2 := off_at hoff 2 (v := .pointer (some ⟨k2, 0, none⟩)) (by kernel_rfl) rfl;obtain ⟨_, e0, rfl⟩ := hdep 0 _ 67 (by kernel_rfl) rfl rfl;rw [if_pos (by rfl)];obtain ⟨y0, y1, y2, hy⟩ := hg.2.1;obtain ⟨t0, t1, t2⟩ := hy.cells;have z0 := frozen_of_row w' k2 0 _ _ hy; have z1 := frozen_of_row w' k2 1 _ _ hy; have z2 := frozen_of_row w' k2 2 _ _ hy
       go_simp;have hn : k4 ≠ k2 := Nat.ne_of_gt K4.out.2;have hbx := hy.set (.string x1) (.string x2) (.string hd);exact hK.out _ _ ⟨((hg.1.other hn _ _).other hn _ _).other hn _ _, ⟨_, _, _, hbx⟩, hg.2.2.1.on (fun _ h => h) (fun b hb => by have h6 := Nat.ne_of_gt (Nat.lt_trans K4.out.2 (Nat.lt_of_lt_of_le K46.out hb.1)); rw [Below.heap_setCell _ _ _ _ h6, Below.heap_setCell _ _ _ _ h6, Below.heap_setCell _ _ _ _ h6]), ((hg.2.2.2.1.setCell (p := ⟨k2, 0, none⟩) (Nat.le_of_lt K4.out.1) _).setCell (p := ⟨k2, 1, none⟩) (Nat.le_of_lt K4.out.1) _).setCell (p := ⟨k2, 2, none⟩) (Nat.le_of_lt K4.out.1) _, by simpa [World.setCell] using hg.2.2.2.2⟩ hbx (fSt ⟨fun _ _ => hbx, trivial⟩) h2
      case s9 =>
       intro a w' hoff hg hdep K hK;obtain ⟨_, e7, rfl⟩ := hdep 7 _ 74 (by kernel_rfl) rfl rfl;rw [if_pos (by rfl)];go_simp;exact hK.out _ _ hg rfl (fun _ _ h => h)
      case fin =>
       intro a w' hoff hg hf hn;obtain ⟨_, e0, rfl⟩ := hf 0 _ 67 rfl rfl;obtain ⟨_, e1, rfl⟩ := hf 1 _ 68 rfl rfl;obtain ⟨_, e2, rfl⟩ := hf 2 _ 69 rfl rfl;obtain ⟨v3, e3, -⟩ := hf 3 _ 70 rfl rfl;obtain ⟨v4, e4, -⟩ := hf 4 _ 71 rfl rfl;obtain ⟨v5, e5, -⟩ := hf 5 _ 72 rfl rfl;obtain ⟨v6, e6, -⟩ := hf 6 _ 73 rfl rfl;obtain ⟨_, e7, rfl⟩ := hf 7 _ 74 rfl rfl;obtain ⟨v8, (g8 : BoxPl w' k2 (.string x1) (.string x2) (.string hd)), T8⟩ := hn 8 _ rfl rfl;replace T8 := T8 2 rfl;obtain ⟨_, e9, rfl⟩ := hf 9 _ 3 rfl rfl;have HB9 := Lib.hid hg.2.2.2.1;rw [hoff.sets [(67, .agg #[.string x1, .string x2, .string hd]), (68, .bool false), (69, .bool false), (70, v3), (71, v4), (72, v5), (73, v6), (74, .bool false), (3, .bool false)] (by kernel_rfl) (by intro p hp; simp only [List.mem_cons, List.not_mem_nil, or_false] at hp; rcases hp with rfl | rfl | rfl | rfl | rfl | rfl | rfl | rfl | rfl <;> assumption)];clear hoff hf hn e0 e1 e2 e3 e4 e5 e6 e7 e9 T8;simp only [List.foldl_cons, List.foldl_nil, List.setIfInBounds_toArray, List.set_cons_zero, List.set_cons_succ]
       go_wp2_with fail
       obtain ⟨t0, t1, t2⟩ := g8.cells;refine bodyPost_ret (v := .tuple #[.agg #[.string x1, .string x2, .string hd], .bool false]) (by simp [results, Tryz.results37, go_sem, t0, t1, t2]) rfl ⟨?_, HB9.out⟩;rw [HE2.out]; rfl
  case cons.cons.cons =>
   obtain ⟨n, hn⟩ : ∃ n, (sa :: sb :: c :: m).length = n := ⟨_, rfl⟩;have hn3 : 3 ≤ n := by rw [← hn]; simp
   rw [hn];have e1 : ((n : Int) == 1) = false := by simp; omega
   have e2 : ((n : Int) == 2) = false := by simp; omega
   have e3 : (n == 1) = false := by simp; omega
   have e4 : (n == 2) = false := by simp; omega
   clear hn hn3;obtain ⟨u0, u1, u2⟩ := X4.out.cells;obtain ⟨v0, v1, v2⟩ := X2.out.cells;have z0 := frozen_of_row w7 k2 0 _ _ X2.out; have z1 := frozen_of_row w7 k2 1 _ _ X2.out; have z2 := frozen_of_row w7 k2 2 _ _ X2.out
   go_wp2_with fail
   have Y := (X2.out.set (.string ⟨#[]⟩) (.string ⟨#[]⟩) (.string hd)).cells;have BB : Below w.heap.size w (((w7.setCell ⟨k2, 0, none⟩ (.string ⟨#[]⟩)).setCell ⟨k2, 1, none⟩ (.string ⟨#[]⟩)).setCell ⟨k2, 2, none⟩ (.string hd)) := ((B2.out.setCell (p := ⟨k2, 0, none⟩) (Nat.le_of_lt K4.out.1) _).setCell (p := ⟨k2, 1, none⟩) (Nat.le_of_lt K4.out.1) _).setCell (p := ⟨k2, 2, none⟩) (Nat.le_of_lt K4.out.1) _;refine bodyPost_ret (v := .tuple #[.agg #[.string ⟨#[]⟩, .string ⟨#[]⟩, .string hd], .bool false]) (by simp [results, Tryz.results37, go_sem, Y.1, Y.2.1, Y.2.2]) rfl ⟨?_, BB⟩;rw [HE.out]; rfl
end Go.Proofs.YtcmlojigcgihbaaGreatDoor
