/-
  LawLMore
-/
import Derived.Test.YtjohcnhiblfbnaaGreatDoorM23
import Derived.Test.YtjohcnhiblfbnaaGreatDoorM28
import Derived.Test.YtjohcnhiblfbnaaGreatDoorM09
namespace Go.Proofs.YtjohcnhiblfbnaaGreatDoor.locateMore
open Go.RowKit
def MK (W : World) (r : Ru) (x : Pl) (k4 k5 : Nat) (xa ya : Option Addr) (xc yc : Nat) (w : World) : Prop := Below W.heap.size W w ∧ BoxRu w k4 (.string r.label) (.string r.head) (.slice xa r.args.length xc) (.string r.agg) (.int .i64 r.at') (.slice ya r.body.length yc) ∧ RepRu (fun k => k < k4) w r (.string r.label) (.string r.head) (.slice xa r.args.length xc) (.string r.agg) (.int .i64 r.at') (.slice ya r.body.length yc) ∧ BoxPl w k5 (.string x.from') (.string x.to') (.string x.head)
theorem MK.on {W : World} {r : Ru} {x : Pl} {k4 k5 : Nat} {xa ya : Option Addr} {xc yc : Nat} {w w' : World} (h : MK W r x k4 k5 xa ya xc yc w) (hb : Below w.heap.size w w') : MK W r x k4 k5 xa ya xc yc w' :=
 ⟨Below.step h.1 hb, h.2.1.on hb, RepRu.on (fun _ h => h) (fun k hk => hb.block k (Nat.lt_trans hk h.2.1.lt)) h.2.2.1, h.2.2.2.on hb⟩
def vT (s : ByteArray) : Tm := .mk 1 s zV []
theorem vT_rep (S : Nat → Prop) (w : World) {s : ByteArray} (h : s.size ≤ maxLen) : RepM S w (vT s) (.int .i64 1) (.string s) (.int .i64 0) (.int .i64 0) (.string ⟨#[]⟩) (.slice none 0 0) (.slice none 0 0) :=
 repM_mk.2 ⟨rfl, rfl, small64 (by omega), h, zV_rep S w, slg_nil⟩
theorem vT_right {s : ByteArray} (h : varB s = true) : rightM 8 (vT s) = true := by
 rw [vT, rightM, if_pos rfl, h, noneZ]; rfl
def atL (s : ByteArray) : Li := ⟨1, ⟨#[114]⟩, [vT s]⟩
theorem atL_right {s : ByteArray} (h : varB s = true) : liB (atL s) = true := by
 show (if (1 : Int) = 1 then atomB (atL s).name (atL s).args else _) = true
 rw [if_pos rfl, atomB, show relB (atL s).name = true from (by decide +kernel : relB ⟨#[114]⟩ = true)]
 simp [listB, atL, vT_right h, headB, placeB, show (vT s).kind = 1 from rfl]
theorem atL_lk (s : ByteArray) : isLk (atL s) = false := by simp [isLk, atL]
def eqL (z : Tm) : Li := ⟨3, ⟨#[61, 61]⟩, [z, z]⟩
theorem eqL_right {z : Tm} (h : rightM 8 z = true) : liB (eqL z) = true := by
 rw [liB]
 simp [eqL, cmpB, Lib.toList_data, listB, h]
def Mf (B kT kS : Nat) (r : Ru) (ya : Option Addr) (yc : Nat) (y : Li) (d0 d1 d2 : Value) (ph : Bool) (w : World) : Nat → Value → Prop
 | 0, v => v = .pointer (some ⟨kS, 5, none⟩)
 | 1, v => v = .slice ya r.body.length yc
 | 2, v => ph = false → B ≤ w.heap.size ∧ OwnK kdLi (fun b => b < B ∧ b ≠ kT) w B r.body v
 | 3, v => v = .agg #[d0, d1, d2]
 | 4, v => ph = false → RowOf 0 (.cells #[d0, d1, d2] 46 (0, 0)) w v
 | 5, v => ph = true → OwnK kdLi (fun b => b < B ∧ b ≠ kT) w B (r.body ++ [y]) v
 | 6, v => v = .pointer (some ⟨kT, 5, none⟩)
 | _ + 7, _ => True
theorem Mf.stay (B kT kS : Nat) (r : Ru) (ya : Option Addr) (yc : Nat) (y : Li) (d0 d1 d2 : Value) {w w' : World} (hb : Below w.heap.size w w') : ∀ i v, Mf B kT kS r ya yc y d0 d1 d2 false w i v → Mf B kT kS r ya yc y d0 d1 d2 false w' i v
 | 0, _, h => h
 | 1, _, h => h
 | 2, _, h => fun e => (fun h => ⟨Nat.le_trans h.1 hb.size, OwnK.on h.2 (fun _ h => h) (fun j hj => hb.block j (Nat.lt_of_lt_of_le hj.1 h.1)) (fun j _ hj _ => hb.block j hj)⟩) (h e)
 | 3, _, h => h
 | 4, _, h => fun e => (fun h => RowOf.stay hb h) (h e)
 | 5, _, _ => fun e => absurd e (by decide)
 | 6, _, h => h
 | _ + 7, _, _ => trivial
theorem Mf.pass (B kT kS : Nat) (r : Ru) (ya : Option Addr) (yc : Nat) (y : Li) (d0 d1 d2 : Value) {w w' : World} : ∀ i v, i ≠ 5 → Mf B kT kS r ya yc y d0 d1 d2 false w i v → Mf B kT kS r ya yc y d0 d1 d2 true w' i v
 | 0, _, _, h => h
 | 1, _, _, h => h
 | 2, _, _, h => fun e => absurd e (by decide)
 | 3, _, _, h => h
 | 4, _, _, h => fun e => absurd e (by decide)
 | 5, _, hne, _ => absurd rfl hne
 | 6, _, _, h => h
 | _ + 7, _, _, _ => trivial
theorem place_eq {r : Ru} {x : Pl} {z : Tm} (hz : rightM 8 z = true) (h : (placeZ r).2 = true) (hl : r.body.length < 8) (hp : placeZ r = (x, true)) : placeZ (moreRu r (eqL z)) = (x, true) := by
 rw [place_more h hl (eqL_right hz) (by simp [isLk, isAt, eqL]) (.inl (by simp [isAt, eqL])) (fun h => by simp [hasPl, eqL] at h)]
 exact hp
theorem from_of {r : Ru} {x : Pl} (h : (placeZ r).2 = true) (hp : placeZ r = (x, true)) : x.from' ∈ placesL [] r.body := by
 obtain ⟨-, -, -, -, h5, -, h7⟩ := placeZ_ok h
 have : x = (bodyPlaceZ r).1 := congrArg Prod.fst (hp.symm.trans h7)
 rw [this]; exact from_in h5
theorem place_at {r : Ru} {x : Pl} (h : (placeZ r).2 = true) (hl : r.body.length < 8) (hp : placeZ r = (x, true)) : placeZ (moreRu r (atL x.from')) = (x, true) := by
 obtain ⟨h1, -, h3, -, h5, -, -⟩ := placeZ_ok h
 have hf := from_of h hp
 rw [place_more h hl (atL_right (places_var h1 h3 _ hf)) (atL_lk _) (.inr (bodyPlace_ok h5).1) (fun _ => ⟨rfl, inB_iff.2 hf⟩)]
 exact hp
theorem place_oth {r : Ru} (h : (placeZ r).2 = true) (hs : ∀ x ∈ r.body, ∀ t ∈ x.args, Short t) : placeZ (moreRu r (atL ⟨#[79, 116, 104, 101, 114]⟩)) = (zPl, false) := by
 obtain ⟨h1, -, h3, -, -, -, -⟩ := placeZ_ok h
 obtain ⟨e1, e2⟩ := short_none hs (s := ⟨#[79, 116, 104, 101, 114]⟩) (by decide +kernel) h3 (ru_facts h1).2.1
 exact placeZ_no (place_other h (atL_lk _) rfl e1 (fun a => e2 a 0))
set_option maxRecDepth 100000 in
set_option maxHeartbeats 8000000 in
theorem walk (l : List Rw) (W : World) (va : Value) (htab : TabOk W) (ga : RepRws (fun k => k < W.heap.size) W l va) :
  Calls Tryz.prog 6 #[va] W fun e W' => e = .returned (.bool true) ∧ Below W.heap.size W W' := by
 have GA := Lib.hid ga; have HT := Lib.hid htab; have HG : Hid (0 < W.heap.size) := tab_lt htab
 obtain ⟨la, lc, rfl⟩ := SlG.form ga
 clear ga htab
 go_enter Tryz.func6, Tryz.ntmps6
 go_wp2_with fail
 refine (awake7_any W HG.out HT.out).mono ?_
 rintro e w1 ⟨rfl, hb⟩
 have B1 := Lib.hid hb
 clear hb
 go_wp2_with fail
 refine (rule_any l 0 (fun k => k < W.heap.size) w1 la lc (fun k hk => Nat.lt_of_lt_of_le hk B1.out.size) (SlG.on (fun _ h => h) (fun k hk => B1.out.block k hk) (fun _ _ _ h => h) GA.out) (small64 (by omega))).mono ?_
 rintro e w2 ⟨v2, v5, rfl, hrep, hb⟩
 have HRB := Lib.hid (right_rule l 0)
 have HSH : Hid (∀ x ∈ (ruleZ l 0).body, ∀ t ∈ x.args, Short t) := by show ∀ x ∈ _, _; rw [rule_body]; exact short_body l
 generalize ruleZ l 0 = r at *
 obtain ⟨xa, xc, rfl⟩ := SlG.form hrep.2.2.2.2.2.2.2.2.1
 obtain ⟨ya, yc, rfl⟩ := SlG.form hrep.2.2.2.2.2.2.2.2.2
 have HRP := Lib.hid hrep; have B2 := Lib.hid (Below.step B1.out hb)
 clear hrep hb B1 GA
 go_upto_region 3 with fail
 have mk := boxRu_new w2 (.string r.label) (.string r.head) (.slice xa r.args.length xc) (.string r.agg) (.int .i64 r.at') (.slice ya r.body.length yc)
 have da := below_alloc w2 (.cells #[.string r.label, .string r.head, .slice xa r.args.length xc, .string r.agg, .int .i64 r.at', .slice ya r.body.length yc] 43)
 have sa := World.size_alloc w2 (.cells #[.string r.label, .string r.head, .slice xa r.args.length xc, .string r.agg, .int .i64 r.at', .slice ya r.body.length yc] 43)
 generalize w2.alloc (.cells #[.string r.label, .string r.head, .slice xa r.args.length xc, .string r.agg, .int .i64 r.at', .slice ya r.body.length yc] 43) = w3 at *
 have GR : Hid (RepRu (fun k => k < w2.heap.size) w3 r (.string r.label) (.string r.head) (.slice xa r.args.length xc) (.string r.agg) (.int .i64 r.at') (.slice ya r.body.length yc)) := RepRu.on (fun k hk => hk.2) (fun k hk => da.block k hk.2) HRP.out
 have BW := Lib.hid (Below.step B2.out da)
 obtain ⟨k4, hk4⟩ : ∃ k, w2.heap.size = k := ⟨_, rfl⟩
 have hwk : W.heap.size ≤ k4 := by rw [← hk4]; exact B2.out.size
 rw [hk4] at mk GR sa ⊢
 have X4 := Lib.hid mk
 have KK : Hid (W.heap.size ≤ k4 ∧ k4 < w3.heap.size) := ⟨hwk, by omega⟩
 clear mk da sa hk4 HRP B2 hwk
 obtain ⟨o0, o1, o2, o3, o4, o5⟩ := X4.out.cells
 go_wp2_with fail
 refine (locPlace_any r (fun k => k < k4) w3 _ _ _ _ _ _ (fun k hk => Nat.lt_trans hk KK.out.2) (Nat.lt_of_lt_of_le HG.out BW.out.size) (TabOk.below HT.out HG.out BW.out) GR.out).mono ?_
 rintro e w4 ⟨rfl, hb⟩
 replace X4 := Lib.hid (X4.out.on hb)
 replace GR : Hid (RepRu (fun k => k < k4) w4 r (.string r.label) (.string r.head) (.slice xa r.args.length xc) (.string r.agg) (.int .i64 r.at') (.slice ya r.body.length yc)) := RepRu.on (fun _ h => h) (fun k hk => hb.block k (Nat.lt_trans hk KK.out.2)) GR.out
 replace KK : Hid (W.heap.size ≤ k4 ∧ k4 < w4.heap.size) := ⟨KK.out.1, Nat.lt_of_lt_of_le KK.out.2 hb.size⟩
 replace BW := Lib.hid (Below.step BW.out hb)
 clear hb o0 o1 o2 o3 o4 o5
 obtain ⟨⟨x, is⟩, hpz⟩ : ∃ p, placeZ r = p := ⟨_, rfl⟩
 rw [hpz, plRet]
 have HPZ := Lib.hid hpz
 clear hpz
 go_upto_region 4 with fail
 have m5 := alloc_new' w4 (.cells #[.string x.from', .string x.to', .string x.head] 37)
 have da := below_alloc w4 (.cells #[.string x.from', .string x.to', .string x.head] 37)
 have sa := World.size_alloc w4 (.cells #[.string x.from', .string x.to', .string x.head] 37)
 generalize w4.alloc (.cells #[.string x.from', .string x.to', .string x.head] 37) = w5 at *
 obtain ⟨k5, hk5⟩ : ∃ k, w4.heap.size = k := ⟨_, rfl⟩
 have hk := KK.out.2
 rw [hk5] at m5 sa hk ⊢
 have X5 : Hid (BoxPl w5 k5 (.string x.from') (.string x.to') (.string x.head)) := m5
 replace X4 := Lib.hid (X4.out.on da)
 replace GR : Hid (RepRu (fun k => k < k4) w5 r (.string r.label) (.string r.head) (.slice xa r.args.length xc) (.string r.agg) (.int .i64 r.at') (.slice ya r.body.length yc)) := RepRu.on (fun _ h => h) (fun k hk => da.block k (Nat.lt_trans hk KK.out.2)) GR.out
 replace BW := Lib.hid (Below.step BW.out da)
 replace KK : Hid (W.heap.size ≤ k4 ∧ k4 < k5 ∧ k5 < w5.heap.size) := ⟨KK.out.1, hk, by omega⟩
 clear m5 da sa hk5 hk
 obtain ⟨o0, o1, o2, o3, o4, o5⟩ := X4.out.cells
 cases is with
 | false =>
  go_wp2_with fail
  go_ret
  exact ⟨rfl, BW.out⟩
 | true =>
  have HOK : Hid ((placeZ r).2 = true) := by show _ = _; rw [HPZ.out]
  by_cases h8 : 8 ≤ r.body.length
  ·have i1 : decide ((8 : Int) ≤ (r.body.length : Int)) = true := decide_eq_true (by omega)
   have i2 : decide (8 ≤ r.body.length) = true := decide_eq_true h8
   go_wp2_with fail
   go_ret
   exact ⟨rfl, BW.out⟩
  ·have i1 : decide ((8 : Int) ≤ (r.body.length : Int)) = false := decide_eq_false (by omega)
   have i2 : decide (8 ≤ r.body.length) = false := decide_eq_false h8
   have HBL : Hid (r.body.length < 8) := by show _ < _; omega
   clear h8
   go_upto_region 6 with fail
   clear i1 i2 o0 o1 o2 o3 o4 o5
   have h0 : 0 < r.args.length := (ru_facts HRB.out).2.2
   obtain ⟨-, -, zb, zo, za, zc, zg, zh, hxa, hzb, m0, m1, m2, m3, m4, m5, m6, zr⟩ := RepMs.at GR.out.2.2.2.2.2.2.2.2.1 0 h0
   subst hxa
   simp only [Nat.zero_mul, Nat.add_zero] at m0 m1 m2 m3 m4 m5 m6
   have HZR : Hid (rightM 8 r.args[0] = true) := (ru_args HRB.out).1 _ (List.getElem_mem h0)
   have i0 : (0 : Int) < (r.args.length : Int) := by omega
   have j0 : 0 < r.args.length := h0
   generalize r.args[0] = z at *
   have Z0 := Lib.hid m0; have Z1 := Lib.hid m1; have Z2 := Lib.hid m2; have Z3 := Lib.hid m3; have Z4 := Lib.hid m4; have Z5 := Lib.hid m5; have Z6 := Lib.hid m6
   have ZR : Hid (RepM (fun k => k < k4) w5 z (.int .i64 z.kind) (.string z.name) (.int .i64 z.val.kind) (.int .i64 z.val.num) (.string z.val.text) (.slice za z.val.list.length zc) (.slice zg z.args.length zh)) := zr
   have ZB : Hid (zb < w5.heap.size) := Nat.lt_trans hzb (Nat.lt_trans KK.out.2.1 KK.out.2.2)
   clear m0 m1 m2 m3 m4 m5 m6 zr hzb h0
   refine wp_region_factsU (by rfl) 112 (by rfl) (by kernel_rfl) (FA [.e (.pointer (some ⟨k4, 2, none⟩)), .e (.slice (some ⟨zb, zo, none⟩) r.args.length xc), .e (.pointer (some ⟨zb, zo, none⟩)), .e (.agg #[.int .i64 z.kind, .string z.name, .int .i64 z.val.kind, .int .i64 z.val.num, .string z.val.text, .slice za z.val.list.length zc, .slice zg z.args.length zh]), .e (.pointer (some ⟨k4, 2, none⟩)), .e (.slice (some ⟨zb, zo, none⟩) r.args.length xc), .e (.pointer (some ⟨zb, zo, none⟩)), .e (.agg #[.int .i64 z.kind, .string z.name, .int .i64 z.val.kind, .int .i64 z.val.num, .string z.val.text, .slice za z.val.list.length zc, .slice zg z.args.length zh]), .p (fun wz vz => ∃ a n c, vz = .slice a n c ∧ RepMs (SX k4 w5.heap.size 46 wz) wz [z, z] vz), .p (fun wz vz => ∃ s, vz = .agg #[.int .i64 3, .string ⟨#[61, 61]⟩, s] ∧ RepMs (SX k4 w5.heap.size 46 wz) wz [z, z] s), .p (fun wz vz => ∃ q, vz = .pointer (some ⟨q, 0, none⟩) ∧ w5.heap.size ≤ q ∧ ∃ c0 c1 c2, BoxLi wz q c0 c1 c2), .p (fun wz vz => ∃ q s, vz = .pointer (some ⟨q, 0, none⟩) ∧ w5.heap.size ≤ q ∧ BoxLi wz q (.int .i64 3) (.string ⟨#[61, 61]⟩) s ∧ RepMs (SX k4 w5.heap.size 46 wz) wz [z, z] s)]) (fun w' => Below w5.heap.size w5 w') (Below.drew (Below.refl _ _)) ⟨?s0, ?s1, ?s2, ?s3, ?s4, ?s5, ?s6, ?s7, ?s8, ?s9, ?s10, ?s11, trivial⟩ ?fin
   case s0 =>
    intro a w' hoff hg hdep K hK
    have h4 := off_at hoff 4 (v := .pointer (some ⟨k4, 0, none⟩)) (by kernel_rfl) rfl
    rw [if_pos (by rfl)]
    go_simp
    exact hK.out _ _ hg rfl (fun _ _ h => h)
   case s1 =>
    intro a w' hoff hg hdep K hK
    obtain ⟨_, e0, rfl⟩ := hdep 0 _ 35 (by kernel_rfl) rfl rfl
    rw [if_pos (by rfl)]
    obtain ⟨o0, o1, o2, o3, o4, o5⟩ := (X4.out.on hg).cells
    go_simp
    exact hK.out _ _ hg rfl (fun _ _ h => h)
   case s2 =>
    intro a w' hoff hg hdep K hK
    obtain ⟨_, e1, rfl⟩ := hdep 1 _ 36 (by kernel_rfl) rfl rfl
    rw [if_pos (by rfl)]
    go_simp
    exact hK.out _ _ hg rfl (fun _ _ h => h)
   case s3 =>
    intro a w' hoff hg hdep K hK
    obtain ⟨_, e2, rfl⟩ := hdep 2 _ 37 (by kernel_rfl) rfl rfl
    rw [if_pos (by rfl)]
    obtain ⟨t0, t1, t2, t3, t4, t5, t6⟩ : w'.cell? ⟨zb, zo, none⟩ = some (.int .i64 z.kind) ∧ w'.cell? ⟨zb, zo + 1, none⟩ = some (.string z.name) ∧ w'.cell? ⟨zb, zo + 2, none⟩ = some (.int .i64 z.val.kind) ∧ w'.cell? ⟨zb, zo + 3, none⟩ = some (.int .i64 z.val.num) ∧ w'.cell? ⟨zb, zo + 4, none⟩ = some (.string z.val.text) ∧ w'.cell? ⟨zb, zo + 5, none⟩ = some (.slice za z.val.list.length zc) ∧ w'.cell? ⟨zb, zo + 6, none⟩ = some (.slice zg z.args.length zh) := ⟨(hg.cell (p := ⟨zb, zo, none⟩) ZB.out).trans Z0.out, (hg.cell (p := ⟨zb, zo + 1, none⟩) ZB.out).trans Z1.out, (hg.cell (p := ⟨zb, zo + 2, none⟩) ZB.out).trans Z2.out, (hg.cell (p := ⟨zb, zo + 3, none⟩) ZB.out).trans Z3.out, (hg.cell (p := ⟨zb, zo + 4, none⟩) ZB.out).trans Z4.out, (hg.cell (p := ⟨zb, zo + 5, none⟩) ZB.out).trans Z5.out, (hg.cell (p := ⟨zb, zo + 6, none⟩) ZB.out).trans Z6.out⟩
    go_simp
    exact hK.out _ _ hg rfl (fun _ _ h => h)
   case s4 =>
    intro a w' hoff hg hdep K hK
    have h4 := off_at hoff 4 (v := .pointer (some ⟨k4, 0, none⟩)) (by kernel_rfl) rfl
    rw [if_pos (by rfl)]
    go_simp
    exact hK.out _ _ hg rfl (fun _ _ h => h)
   case s5 =>
    intro a w' hoff hg hdep K hK
    obtain ⟨_, e4, rfl⟩ := hdep 4 _ 39 (by kernel_rfl) rfl rfl
    rw [if_pos (by rfl)]
    obtain ⟨o0, o1, o2, o3, o4, o5⟩ := (X4.out.on hg).cells
    go_simp
    exact hK.out _ _ hg rfl (fun _ _ h => h)
   case s6 =>
    intro a w' hoff hg hdep K hK
    obtain ⟨_, e5, rfl⟩ := hdep 5 _ 40 (by kernel_rfl) rfl rfl
    rw [if_pos (by rfl)]
    go_simp
    exact hK.out _ _ hg rfl (fun _ _ h => h)
   case s7 =>
    intro a w' hoff hg hdep K hK
    obtain ⟨_, e6, rfl⟩ := hdep 6 _ 41 (by kernel_rfl) rfl rfl
    rw [if_pos (by rfl)]
    obtain ⟨t0, t1, t2, t3, t4, t5, t6⟩ : w'.cell? ⟨zb, zo, none⟩ = some (.int .i64 z.kind) ∧ w'.cell? ⟨zb, zo + 1, none⟩ = some (.string z.name) ∧ w'.cell? ⟨zb, zo + 2, none⟩ = some (.int .i64 z.val.kind) ∧ w'.cell? ⟨zb, zo + 3, none⟩ = some (.int .i64 z.val.num) ∧ w'.cell? ⟨zb, zo + 4, none⟩ = some (.string z.val.text) ∧ w'.cell? ⟨zb, zo + 5, none⟩ = some (.slice za z.val.list.length zc) ∧ w'.cell? ⟨zb, zo + 6, none⟩ = some (.slice zg z.args.length zh) := ⟨(hg.cell (p := ⟨zb, zo, none⟩) ZB.out).trans Z0.out, (hg.cell (p := ⟨zb, zo + 1, none⟩) ZB.out).trans Z1.out, (hg.cell (p := ⟨zb, zo + 2, none⟩) ZB.out).trans Z2.out, (hg.cell (p := ⟨zb, zo + 3, none⟩) ZB.out).trans Z3.out, (hg.cell (p := ⟨zb, zo + 4, none⟩) ZB.out).trans Z4.out, (hg.cell (p := ⟨zb, zo + 5, none⟩) ZB.out).trans Z5.out, (hg.cell (p := ⟨zb, zo + 6, none⟩) ZB.out).trans Z6.out⟩
    go_simp
    exact hK.out _ _ hg rfl (fun _ _ h => h)
   case s8 =>
    intro a w' hoff hg hdep K hK
    obtain ⟨_, e3, rfl⟩ := hdep 3 _ 38 (by kernel_rfl) rfl rfl
    obtain ⟨_, e7, rfl⟩ := hdep 7 _ 42 (by kernel_rfl) rfl rfl
    rw [if_pos (by rfl)]
    go_simp
    have hb := below_alloc w' (.cells #[.int .i64 z.kind, .string z.name, .int .i64 z.val.kind, .int .i64 z.val.num, .string z.val.text, .slice za z.val.list.length zc, .slice zg z.args.length zh, .int .i64 z.kind, .string z.name, .int .i64 z.val.kind, .int .i64 z.val.num, .string z.val.text, .slice za z.val.list.length zc, .slice zg z.args.length zh] 52)
    have hz := RepM.on (S' := SX k4 w5.heap.size 46 (w'.alloc (.cells #[.int .i64 z.kind, .string z.name, .int .i64 z.val.kind, .int .i64 z.val.num, .string z.val.text, .slice za z.val.list.length zc, .slice zg z.args.length zh, .int .i64 z.kind, .string z.name, .int .i64 z.val.kind, .int .i64 z.val.num, .string z.val.text, .slice za z.val.list.length zc, .slice zg z.args.length zh] 52))) (fun _ h => .inl h) (fun j (hj : j < k4) => (Below.step hg hb).block j (Nat.lt_trans hj (Nat.lt_trans KK.out.2.1 KK.out.2.2))) z ZR.out
    exact hK.out _ _ (Below.step hg hb) ⟨_, _, _, rfl, slg_row (alloc_new' w' _) (SX.new hg.size (by decide)) rfl (by simp) (fun i h => match i, h with | 0, _ => hz | 1, _ => hz)⟩ (fSt ⟨fun _ h => let ⟨a, n, c, e, h⟩ := h; ⟨a, n, c, e, RepMs.on (fun _ k => k.on hb) (fun _ k => k.keep (Nat.le_of_lt (Nat.lt_of_lt_of_le (Nat.lt_trans KK.out.2.1 KK.out.2.2) hg.size)) hb) h⟩, fun _ h => let ⟨s, e, h⟩ := h; ⟨s, e, RepMs.on (fun _ k => k.on hb) (fun _ k => k.keep (Nat.le_of_lt (Nat.lt_of_lt_of_le (Nat.lt_trans KK.out.2.1 KK.out.2.2) hg.size)) hb) h⟩, fun _ h => let ⟨q, e, h1, c0, c1, c2, h2⟩ := h; ⟨q, e, h1, c0, c1, c2, h2.on hb⟩, fun _ h => let ⟨q, s, e, h1, h2, h3⟩ := h; ⟨q, s, e, h1, h2.on hb, RepMs.on (fun _ k => k.on hb) (fun _ k => k.keep (Nat.le_of_lt (Nat.lt_of_lt_of_le (Nat.lt_trans KK.out.2.1 KK.out.2.2) hg.size)) hb) h3⟩, trivial⟩)
   case s9 =>
    intro a w' hoff hg hdep K hK
    obtain ⟨v8, e8, (g8 : ∃ a n c, v8 = .slice a n c ∧ RepMs (SX k4 w5.heap.size 46 w') w' [z, z] v8)⟩ := hdep 8 _ 43 (by kernel_rfl) rfl rfl
    rw [if_pos (by rfl)]
    obtain ⟨ra, rn, rc, rfl, hT⟩ := g8
    go_simp
    exact hK.out _ _ hg ⟨_, rfl, hT⟩ (fun _ _ h => h)
   case s10 =>
    intro a w' hoff hg hdep K hK
    rw [if_pos (by rfl)]
    go_simp
    have hb := below_alloc w' (.cells #[.int .i64 0, .string ⟨#[]⟩, .slice none 0 0] 46)
    exact hK.out _ _ (Below.step hg hb) ⟨_, rfl, hg.size, _, _, _, boxLi_new w' _ _ _⟩ (fSt ⟨fun _ h => let ⟨a, n, c, e, h⟩ := h; ⟨a, n, c, e, RepMs.on (fun _ k => k.on hb) (fun _ k => k.keep (Nat.le_of_lt (Nat.lt_of_lt_of_le (Nat.lt_trans KK.out.2.1 KK.out.2.2) hg.size)) hb) h⟩, fun _ h => let ⟨s, e, h⟩ := h; ⟨s, e, RepMs.on (fun _ k => k.on hb) (fun _ k => k.keep (Nat.le_of_lt (Nat.lt_of_lt_of_le (Nat.lt_trans KK.out.2.1 KK.out.2.2) hg.size)) hb) h⟩, fun _ h => let ⟨q, e, h1, c0, c1, c2, h2⟩ := h; ⟨q, e, h1, c0, c1, c2, h2.on hb⟩, fun _ h => let ⟨q, s, e, h1, h2, h3⟩ := h; ⟨q, s, e, h1, h2.on hb, RepMs.on (fun _ k => k.on hb) (fun _ k => k.keep (Nat.le_of_lt (Nat.lt_of_lt_of_le (Nat.lt_trans KK.out.2.1 KK.out.2.2) hg.size)) hb) h3⟩, trivial⟩)
   case s11 =>
    intro a w' hoff hg hdep K hK
    obtain ⟨v10, e10, (g10 : ∃ q, v10 = .pointer (some ⟨q, 0, none⟩) ∧ w5.heap.size ≤ q ∧ ∃ c0 c1 c2, BoxLi w' q c0 c1 c2)⟩ := hdep 10 _ 7 (by kernel_rfl) rfl rfl
    obtain ⟨v9, e9, (g9 : ∃ s, v9 = .agg #[.int .i64 3, .string ⟨#[61, 61]⟩, s] ∧ RepMs (SX k4 w5.heap.size 46 w') w' [z, z] s)⟩ := hdep 9 _ 44 (by kernel_rfl) rfl rfl
    rw [if_pos (by rfl)]
    obtain ⟨s, rfl, hS9⟩ := g9
    obtain ⟨q, rfl, hq, c0, c1, c2, hbx⟩ := g10
    obtain ⟨t0, t1, t2⟩ := hbx.cells
    have z0 := frozen_of_row w' q 0 _ _ hbx; have z1 := frozen_of_row w' q 1 _ _ hbx; have z2 := frozen_of_row w' q 2 _ _ hbx
    have e99 := e10
    obtain ⟨sa, sn, sc, hsf⟩ : ∃ a n c, s = .slice a n c := (let ⟨a, c, e⟩ := SlG.form hS9; ⟨a, _, c, e⟩)
    subst hsf
    go_simp
    have hb2 := boxLi_set hbx (.int .i64 3) (.string ⟨#[61, 61]⟩) (.slice sa sn sc)
    have hsz : ∀ k, k ≠ q → (((w'.setCell ⟨q, 0, none⟩ (.int .i64 3)).setCell ⟨q, 1, none⟩ (.string ⟨#[61, 61]⟩)).setCell ⟨q, 2, none⟩ (.slice sa sn sc)).heap[k]? = w'.heap[k]? := fun k hk => by rw [Below.heap_setCell _ _ _ _ hk, Below.heap_setCell _ _ _ _ hk, Below.heap_setCell _ _ _ _ hk]
    have hoo := SX.off (k := k4) (B := w5.heap.size) hbx (Nat.le_trans (Nat.le_of_lt (Nat.lt_trans KK.out.2.1 KK.out.2.2)) hq) hsz (by simp [World.setCell])
    exact hK.out _ _ (((hg.setCell (p := ⟨q, 0, none⟩) hq _).setCell (p := ⟨q, 1, none⟩) hq _).setCell (p := ⟨q, 2, none⟩) hq _) ⟨q, _, rfl, hq, hb2, RepMs.on hoo.1 hoo.2 hS9⟩ (fSt ⟨fun _ h => let ⟨a, n, c, e, h⟩ := h; ⟨a, n, c, e, RepMs.on hoo.1 hoo.2 h⟩, fun _ h => let ⟨s, e, h⟩ := h; ⟨s, e, RepMs.on hoo.1 hoo.2 h⟩, fun _ h => (let ⟨p, e, h1, d0, d1, d2, h2⟩ := h; match Nat.decEq p q with | .isTrue hp => ⟨p, e, h1, (.int .i64 3), (.string ⟨#[61, 61]⟩), .slice sa sn sc, (by rw [hp]; exact hb2)⟩ | .isFalse hp => ⟨p, e, h1, d0, d1, d2, (hsz p hp).trans h2⟩), fun _ h => (let ⟨p, s, e, h1, h2, h3⟩ := h; match Nat.decEq p q with | .isTrue hp => ⟨p, .slice sa sn sc, e, h1, (by rw [hp]; exact hb2), RepMs.on hoo.1 hoo.2 hS9⟩ | .isFalse hp => ⟨p, s, e, h1, (hsz p hp).trans h2, RepMs.on hoo.1 hoo.2 h3⟩), trivial⟩) e99
   case fin =>
    intro a w' hoff hg hf hn
    obtain ⟨_, e0, rfl⟩ := hf 0 _ 35 rfl rfl
    obtain ⟨_, e1, rfl⟩ := hf 1 _ 36 rfl rfl
    obtain ⟨_, e2, rfl⟩ := hf 2 _ 37 rfl rfl
    obtain ⟨_, e3, rfl⟩ := hf 3 _ 38 rfl rfl
    obtain ⟨_, e4, rfl⟩ := hf 4 _ 39 rfl rfl
    obtain ⟨_, e5, rfl⟩ := hf 5 _ 40 rfl rfl
    obtain ⟨_, e6, rfl⟩ := hf 6 _ 41 rfl rfl
    obtain ⟨_, e7, rfl⟩ := hf 7 _ 42 rfl rfl
    obtain ⟨v8, e8, (g8 : ∃ a n c, v8 = .slice a n c ∧ RepMs (SX k4 w5.heap.size 46 w') w' [z, z] v8)⟩ := hf 8 _ 43 rfl rfl
    obtain ⟨v9, e9, (g9 : ∃ s, v9 = .agg #[.int .i64 3, .string ⟨#[61, 61]⟩, s] ∧ RepMs (SX k4 w5.heap.size 46 w') w' [z, z] s)⟩ := hf 9 _ 44 rfl rfl
    obtain ⟨v10, e10, (g10 : ∃ q, v10 = .pointer (some ⟨q, 0, none⟩) ∧ w5.heap.size ≤ q ∧ ∃ c0 c1 c2, BoxLi w' q c0 c1 c2)⟩ := hf 10 _ 7 rfl rfl
    obtain ⟨v11, (g11 : ∃ q s, v11 = .pointer (some ⟨q, 0, none⟩) ∧ w5.heap.size ≤ q ∧ BoxLi w' q (.int .i64 3) (.string ⟨#[61, 61]⟩) s ∧ RepMs (SX k4 w5.heap.size 46 w') w' [z, z] s), T11⟩ := hn 11 _ rfl rfl
    replace T11 := T11 7 rfl
    obtain ⟨ra8, rn8, rc8, rfl, -⟩ := g8
    obtain ⟨s9, rfl, -⟩ := g9
    obtain ⟨k7, sl, rfl, hk7, hbx, hrow⟩ := g11
    obtain rfl : v10 = .pointer (some ⟨k7, 0, none⟩) := Option.some.inj (e10.symm.trans T11)
    clear g10
    rw [hoff.sets [(35, .pointer (some ⟨k4, 2, none⟩)), (36, .slice (some ⟨zb, zo, none⟩) r.args.length xc), (37, .pointer (some ⟨zb, zo, none⟩)), (38, .agg #[.int .i64 z.kind, .string z.name, .int .i64 z.val.kind, .int .i64 z.val.num, .string z.val.text, .slice za z.val.list.length zc, .slice zg z.args.length zh]), (39, .pointer (some ⟨k4, 2, none⟩)), (40, .slice (some ⟨zb, zo, none⟩) r.args.length xc), (41, .pointer (some ⟨zb, zo, none⟩)), (42, .agg #[.int .i64 z.kind, .string z.name, .int .i64 z.val.kind, .int .i64 z.val.num, .string z.val.text, .slice za z.val.list.length zc, .slice zg z.args.length zh]), (43, .slice ra8 rn8 rc8), (44, .agg #[.int .i64 3, .string ⟨#[61, 61]⟩, s9]), (7, .pointer (some ⟨k7, 0, none⟩))] (by kernel_rfl) (by intro p hp; simp only [List.mem_cons, List.not_mem_nil, or_false] at hp; rcases hp with rfl | rfl | rfl | rfl | rfl | rfl | rfl | rfl | rfl | rfl | rfl <;> assumption)]
    clear hoff hf hn e0 e1 e2 e3 e4 e5 e6 e7 e8 e9 e10 T11
    simp only [List.foldl_cons, List.foldl_nil, List.setIfInBounds_toArray, List.set_cons_zero, List.set_cons_succ]
    have HM : Hid (MK W r x k4 k5 (some ⟨zb, zo, none⟩) ya xc yc w') := ⟨Below.step BW.out hg, X4.out.on hg, RepRu.on (fun _ h => h) (fun k hk => hg.block k (Nat.lt_trans hk (Nat.lt_trans KK.out.2.1 KK.out.2.2))) GR.out, X5.out.on hg⟩
    have HL := Lib.hid hbx
    have HA : Hid (RepLi (fun b => b < w'.heap.size) w' (eqL z) (.int .i64 3) (.string ⟨#[61, 61]⟩) sl) := ⟨rfl, rfl, small64 (show (0 : Int) ≤ 3 ∧ (3 : Int) ≤ 100 by omega), (by decide +kernel : (⟨#[61, 61]⟩ : ByteArray).size ≤ maxLen), RepMs.on (fun _ h => SX.lt (Nat.le_of_lt (Nat.lt_of_lt_of_le (Nat.lt_trans KK.out.2.1 KK.out.2.2) hg.size)) h) (fun _ _ => rfl) hrow⟩
    have HLI : Hid (liB (eqL z) = true) := eqL_right HZR.out
    clear hbx hrow hk7 hg X4 X5 GR BW KK ZR ZB Z0 Z1 Z2 Z3 Z4 Z5 Z6
    generalize w' = wa at *
    obtain ⟨o0, o1, o2, o3, o4, o5⟩ := HM.out.2.1.cells
    go_upto_region 8 with fail
    have mk := boxRu_new wa (.string r.label) (.string r.head) (.slice (some ⟨zb, zo, none⟩) r.args.length xc) (.string r.agg) (.int .i64 r.at') (.slice ya r.body.length yc)
    have da := below_alloc wa (.cells #[.string r.label, .string r.head, .slice (some ⟨zb, zo, none⟩) r.args.length xc, .string r.agg, .int .i64 r.at', .slice ya r.body.length yc] 43)
    have sa := World.size_alloc wa (.cells #[.string r.label, .string r.head, .slice (some ⟨zb, zo, none⟩) r.args.length xc, .string r.agg, .int .i64 r.at', .slice ya r.body.length yc] 43)
    generalize wa.alloc (.cells #[.string r.label, .string r.head, .slice (some ⟨zb, zo, none⟩) r.args.length xc, .string r.agg, .int .i64 r.at', .slice ya r.body.length yc] 43) = wb at *
    replace HL := Lib.hid (HL.out.on da)
    replace HA : Hid (RepLi (fun b => b < wb.heap.size ∧ b ≠ wa.heap.size) wb (eqL z) (.int .i64 3) (.string ⟨#[61, 61]⟩) sl) := RepLi.on (fun b (hb : b < wa.heap.size) => (by constructor <;> omega : b < wb.heap.size ∧ b ≠ wa.heap.size)) (fun b hb => da.block b hb) HA.out
    obtain ⟨kb, hkb⟩ : ∃ k, wa.heap.size = k := ⟨_, rfl⟩
    have KL : Hid (k4 < kb ∧ kb < wb.heap.size ∧ wa.heap.size = kb) := ⟨by rw [← hkb]; exact HM.out.2.1.lt, by omega, hkb⟩
    have DA := Lib.hid da
    rw [hkb] at mk HA
    have XB := Lib.hid mk
    rw [hkb]
    clear mk da sa hkb o0 o1 o2 o3 o4 o5
    refine wp_region_factsP (by rfl) 112 (by rfl) (by kernel_rfl) 5 (fun q => q == 0 || q == 1 || q == 2 || q == 3 || q == 4) (by kernel_rfl) (fun ph wz iz vz => Mf wb.heap.size kb k4 r ya yc (eqL z) (.int .i64 3) (.string ⟨#[61, 61]⟩) sl ph wz iz vz) (fun ph w' => if ph = true then Below wb.heap.size wb w' else Below wb.heap.size wb w') (Below.drew (Below.refl _ _)) ⟨?s0, ?s1, ?s2, ?s3, ?s4, ?s5, ?s6, trivial⟩ (by rfl) ?last
    case s0 =>
     intro a w' hoff hg hdep K hK
     replace hg : Below wb.heap.size wb w' := hg
     have h4 := off_at hoff 4 (v := .pointer (some ⟨k4, 0, none⟩)) (by kernel_rfl) rfl
     rw [if_pos (by rfl)]
     go_simp
     exact hK.out _ _ hg rfl (fun _ _ h => h)
    case s1 =>
     intro a w' hoff hg hdep K hK
     replace hg : Below wb.heap.size wb w' := hg
     obtain ⟨v0, e0, f0⟩ := hdep 0 _ 46 (by kernel_rfl) rfl rfl
     obtain rfl : v0 = .pointer (some ⟨k4, 5, none⟩) := f0
     rw [if_pos (by rfl)]
     obtain ⟨o0, o1, o2, o3, o4, o5⟩ := (HM.out.on (Below.step DA.out hg)).2.1.cells
     go_simp
     exact hK.out _ _ hg rfl (fun _ _ h => h)
    case s2 =>
     intro a w' hoff hg hdep K hK
     replace hg : Below wb.heap.size wb w' := hg
     obtain ⟨v1, e1, f1⟩ := hdep 1 _ 47 (by kernel_rfl) rfl rfl
     obtain rfl : v1 = .slice ya r.body.length yc := f1
     have hw := Below.step DA.out hg
     have KLo := KL.out
     have hgs := hg.size
     have hrr : SlG (fun b => b < wb.heap.size ∧ b ≠ kb) w' kdLi.n kdLi.bytes (kdLi.R (fun b => b < wb.heap.size ∧ b ≠ kb) w') r.body (.slice ya r.body.length yc) := RepLis.on (fun b (hb : b < k4) => (by constructor <;> omega : b < wb.heap.size ∧ b ≠ kb)) (fun b _ => rfl) (HM.out.on hw).2.2.1.2.2.2.2.2.2.2.2.2
     obtain ⟨v', w6, hrun, hown, hgr⟩ := own_manyS (K := kdLi) (S := (fun b => b < wb.heap.size ∧ b ≠ kb)) (L := []) (m := r.body) (lv := .slice none 0 0) (OwnK.nil _ w' wb.heap.size) hrr (fun b (hb : b < wb.heap.size ∧ b ≠ kb) => ⟨(by omega), by simp [Value.ownBlock]⟩) hg.size (by have := HBL.out; simp; omega) 41
     refine step_append_by rfl (.const (.slice none 0 0)) (.tmp 47) 41 rfl (by simp [Act.eval]) (by simp [Act.eval, e1]) hrun ?_
     have hb : Below w'.heap.size w' w6 := ⟨hgr.os, hgr.tape, hgr.output, hgr.size, fun j hj => hgr.block j hj (by simp [Value.ownBlock])⟩
     exact hK.out _ _ (Below.step hg hb) (fun _ => ⟨(by have := hb.size; omega), by simpa using hown⟩) (fun j u h => Mf.stay _ _ _ _ _ _ _ _ _ _ hb j u h)
    case s3 =>
     intro a w' hoff hg hdep K hK
     replace hg : Below wb.heap.size wb w' := hg
     have h7 := off_at hoff 7 (v := .pointer (some ⟨k7, 0, none⟩)) (by kernel_rfl) rfl
     rw [if_pos (by rfl)]
     obtain ⟨t0, t1, t2⟩ := (HL.out.on hg).cells
     go_simp
     exact hK.out _ _ hg rfl (fun _ _ h => h)
    case s4 =>
     intro a w' hoff hg hdep K hK
     replace hg : Below wb.heap.size wb w' := hg
     obtain ⟨v3, e3, f3⟩ := hdep 3 _ 49 (by kernel_rfl) rfl rfl
     obtain rfl : v3 = .agg #[.int .i64 3, .string ⟨#[61, 61]⟩, sl] := f3
     rw [if_pos (by rfl)]
     go_simp
     have hb := below_alloc w' (.cells #[.int .i64 3, .string ⟨#[61, 61]⟩, sl] 46)
     exact hK.out _ _ (Below.step hg hb) (fun _ => RowOf.new (Nat.zero_le _)) (fun j u h => Mf.stay _ _ _ _ _ _ _ _ _ _ hb j u h)
    case s5 =>
     intro a w' hoff hg hdep K hK
     replace hg : Below wb.heap.size wb w' := hg
     obtain ⟨v2, e2, f2⟩ := hdep 2 _ 48 (by kernel_rfl) rfl rfl
     replace f2 : wb.heap.size ≤ w'.heap.size ∧ OwnK kdLi (fun b => b < wb.heap.size ∧ b ≠ kb) w' wb.heap.size r.body v2 := f2 rfl
     obtain ⟨v4, e4, f4⟩ := hdep 4 _ 50 (by kernel_rfl) rfl rfl
     replace f4 : RowOf 0 (.cells #[.int .i64 3, .string ⟨#[61, 61]⟩, sl] 46 (0, 0)) w' v4 := f4 rfl
     obtain ⟨rb, rfl, hbk, -⟩ := f4
     have hown0 := f2.2
     have KLo := KL.out
     obtain ⟨v', w6, hrun, hown, hgr⟩ := own_manyS (K := kdLi) (S := (fun b => b < wb.heap.size ∧ b ≠ kb)) (S1 := fun _ => True) (L := r.body) (m := [(eqL z)]) (lv := v2) hown0 (one_row (c := at3v (.int .i64 3) (.string ⟨#[61, 61]⟩) sl) hbk trivial (fun j hj => match j, hj with | 0, _ => rfl | 1, _ => rfl | 2, _ => rfl) (RepLi.on (fun _ h => h) (fun b (hb : b < wb.heap.size ∧ b ≠ kb) => hg.block b hb.1) HA.out)) (fun b (hb : b < wb.heap.size ∧ b ≠ kb) => ⟨(by have := f2.1; omega), fun e => by have := (OwnK.lies hown0 b e).1; omega⟩) hg.size (by have := HBL.out; simp; omega) 41
     refine step_append_by rfl (.tmp 48) (.tmp 50) 41 rfl (by simp [Act.eval, e2]) (by simp [Act.eval, e4]) hrun ?_
     have hG2 : Below wb.heap.size wb w6 := ⟨hgr.os.trans hg.os, hgr.tape.trans hg.tape, hgr.output.trans hg.output, Nat.le_trans hg.size hgr.size, fun j hj => (hgr.block j (Nat.lt_of_lt_of_le hj hg.size) (fun e => by have := (OwnK.lies hown0 j e.symm).1; omega)).trans (hg.block j hj)⟩
     exact hK.out _ _ hG2 (fun _ => hown) (fun j u hne h => Mf.pass _ _ _ _ _ _ _ _ _ _ j u hne h)
    case s6 =>
     intro ph a w' hoff hg hdep K hK
     have h8 := off_at hoff 8 (v := .pointer (some ⟨kb, 0, none⟩)) (by kernel_rfl) rfl
     rw [if_pos (by rfl)]
     go_simp
     exact hK.out _ _ hg rfl (fun _ _ h => h)
    case last =>
     intro a w' hoff hg hf
     replace hg : Below wb.heap.size wb w' := hg
     obtain ⟨v0, e0, f0⟩ := hf 0 _ 46 (by decide) rfl rfl
     obtain rfl : v0 = .pointer (some ⟨k4, 5, none⟩) := f0
     obtain ⟨v1, e1, f1⟩ := hf 1 _ 47 (by decide) rfl rfl
     obtain rfl : v1 = .slice ya r.body.length yc := f1
     obtain ⟨v2, e2, f2⟩ := hf 2 _ 48 (by decide) rfl rfl
     clear f2
     obtain ⟨v3, e3, f3⟩ := hf 3 _ 49 (by decide) rfl rfl
     obtain rfl : v3 = .agg #[.int .i64 3, .string ⟨#[61, 61]⟩, sl] := f3
     obtain ⟨v4, e4, f4⟩ := hf 4 _ 50 (by decide) rfl rfl
     clear f4
     obtain ⟨v5, e5, f5⟩ := hf 5 _ 51 (by decide) rfl rfl
     replace f5 : OwnK kdLi (fun b => b < wb.heap.size ∧ b ≠ kb) w' wb.heap.size (r.body ++ [((eqL z))]) v5 := f5 rfl
     obtain ⟨v6, e6, f6⟩ := hf 6 _ 52 (by decide) rfl rfl
     obtain rfl : v6 = .pointer (some ⟨kb, 5, none⟩) := f6
     have KLo := KL.out
     obtain ⟨Mkb, hM⟩ : ∃ M, r.body ++ [(eqL z)] = M := ⟨_, rfl⟩
     rw [hM] at f5
     have hml : Mkb.length ≤ 100000 := by rw [← hM, List.length_append]; have := HBL.out; simp; omega
     obtain ⟨na, nc, rfl⟩ := OwnK.form f5
     have hy := (hg.block kb (by omega)).trans XB.out
     obtain ⟨o0, o1, o2, o3, o4, o5⟩ := BoxRu.cells hy
     have z5 := frozen_of_row w' kb 5 _ _ hy
     rw [if_pos (by rfl)]
     rw [hoff.sets [(46, .pointer (some ⟨k4, 5, none⟩)), (47, .slice ya r.body.length yc), (48, v2), (49, .agg #[.int .i64 3, .string ⟨#[61, 61]⟩, sl]), (50, v4), (51, .slice na Mkb.length nc), (52, .pointer (some ⟨kb, 5, none⟩))] (by kernel_rfl) (by intro p hp; simp only [List.mem_cons, List.not_mem_nil, or_false] at hp; rcases hp with rfl | rfl | rfl | rfl | rfl | rfl | rfl <;> assumption)]
     clear hoff hf e0 e1 e2 e3 e4 e5 e6
     simp only [List.foldl_cons, List.foldl_nil, List.setIfInBounds_toArray, List.set_cons_zero, List.set_cons_succ]
     go_simp
     clear o0 o1 o2 o3 o4 o5 z5
     have mk : BoxRu (w'.setCell ⟨kb, 5, none⟩ (.slice na Mkb.length nc)) kb (.string r.label) (.string r.head) (.slice (some ⟨zb, zo, none⟩) r.args.length xc) (.string r.agg) (.int .i64 r.at') (.slice na Mkb.length nc) := heap_setCell_same _ _ _ _ _ _ hy
     have hbw : Below wa.heap.size wa (w'.setCell ⟨kb, 5, none⟩ (.slice na Mkb.length nc)) := Below.setCell (p := ⟨kb, 5, none⟩) (Below.step DA.out hg) (by show wa.heap.size ≤ kb; omega) _
     have hsz : (w'.setCell ⟨kb, 5, none⟩ (.slice na Mkb.length nc)).heap.size = w'.heap.size := by simp [World.setCell]
     have hgs := hg.size
     have hne : ∀ b, b ≠ kb → (w'.setCell ⟨kb, 5, none⟩ (.slice na Mkb.length nc)).heap[b]? = w'.heap[b]? := fun b hb => Below.heap_setCell _ _ _ _ hb
     have ho : OwnK kdLi (fun b => b < wb.heap.size ∧ b ≠ kb) (w'.setCell ⟨kb, 5, none⟩ (.slice na Mkb.length nc)) wb.heap.size Mkb (.slice na Mkb.length nc) := OwnK.on f5 (fun _ h => h) (fun b hb => hne b hb.2) (fun b h1 _ _ => hne b (by omega))
     have HM2 := Lib.hid (HM.out.on hbw)
     have hrep : Hid (RepRu (fun b => b < (w'.setCell ⟨kb, 5, none⟩ (.slice na Mkb.length nc)).heap.size) (w'.setCell ⟨kb, 5, none⟩ (.slice na Mkb.length nc)) (moreRu r ((eqL z))) (.string r.label) (.string r.head) (.slice (some ⟨zb, zo, none⟩) r.args.length xc) (.string r.agg) (.int .i64 r.at') (.slice na Mkb.length nc)) := ⟨HM2.out.2.2.1.1, HM2.out.2.2.1.2.1, HM2.out.2.2.1.2.2.1, HM2.out.2.2.1.2.2.2.1, HM2.out.2.2.1.2.2.2.2.1, HM2.out.2.2.1.2.2.2.2.2.1, HM2.out.2.2.1.2.2.2.2.2.2.1, HM2.out.2.2.1.2.2.2.2.2.2.2.1, RepMs.on (fun b (hb : b < k4) => (by omega : b < (w'.setCell ⟨kb, 5, none⟩ (.slice na Mkb.length nc)).heap.size)) (fun _ _ => rfl) HM2.out.2.2.1.2.2.2.2.2.2.2.2.1, by show RepLis _ _ (r.body ++ [_]) _; rw [hM]; exact OwnK.slg' ho (fun b (hb : b < wb.heap.size ∧ b ≠ kb) => (by omega : b < (w'.setCell ⟨kb, 5, none⟩ (.slice na Mkb.length nc)).heap.size)) (fun b h1 h2 => h2) hml⟩
     have MK2 := Lib.hid mk
     clear hM hml hy mk hbw hsz hgs hne ho HM HL HA DA XB KL hg KLo f5
     have HM := HM2
     clear HM2
     generalize (w'.setCell ⟨kb, 5, none⟩ (.slice na Mkb.length nc)) = wc at *
     obtain ⟨o0, o1, o2, o3, o4, o5⟩ := MK2.out.cells
     go_wp2_with fail
     refine (locPlace_any (moreRu r ((eqL z))) (fun b => b < wc.heap.size) wc _ _ _ _ _ _ (fun _ h => h) (Nat.lt_of_lt_of_le HG.out HM.out.1.size) (TabOk.below HT.out HG.out HM.out.1) hrep.out).mono ?_
     rintro e wd ⟨rfl, hb⟩
     replace HM := Lib.hid (HM.out.on hb)
     rw [show placeZ (moreRu r (eqL z)) = (x, true) from place_eq HZR.out HOK.out HBL.out HPZ.out, plRet]
     clear hb hrep MK2 o0 o1 o2 o3 o4 o5
     go_upto_region 10 with fail
     have mb := alloc_new' wd (.cells #[.string x.from', .string x.to', .string x.head] 37)
     have da := below_alloc wd (.cells #[.string x.from', .string x.to', .string x.head] 37)
     generalize wd.alloc (.cells #[.string x.from', .string x.to', .string x.head] 37) = we at *
     replace HM := Lib.hid (HM.out.on da)
     obtain ⟨k9, hnb⟩ : ∃ k, wd.heap.size = k := ⟨_, rfl⟩
     rw [hnb] at mb ⊢
     have X9 : Hid (BoxPl we k9 (.string x.from') (.string x.to') (.string x.head)) := mb
     clear mb da hnb
     generalize we = wa at *
     clear HLI HZR
     obtain ⟨o0, o1, o2, o3, o4, o5⟩ := HM.out.2.1.cells
     go_upto_region 11 with fail
     have mk := boxRu_new wa (.string r.label) (.string r.head) (.slice (some ⟨zb, zo, none⟩) r.args.length xc) (.string r.agg) (.int .i64 r.at') (.slice ya r.body.length yc)
     have da := below_alloc wa (.cells #[.string r.label, .string r.head, .slice (some ⟨zb, zo, none⟩) r.args.length xc, .string r.agg, .int .i64 r.at', .slice ya r.body.length yc] 43)
     have sa := World.size_alloc wa (.cells #[.string r.label, .string r.head, .slice (some ⟨zb, zo, none⟩) r.args.length xc, .string r.agg, .int .i64 r.at', .slice ya r.body.length yc] 43)
     generalize wa.alloc (.cells #[.string r.label, .string r.head, .slice (some ⟨zb, zo, none⟩) r.args.length xc, .string r.agg, .int .i64 r.at', .slice ya r.body.length yc] 43) = wb at *
     obtain ⟨kb, hkb⟩ : ∃ k, wa.heap.size = k := ⟨_, rfl⟩
     have KL : Hid (k4 < kb ∧ kb < wb.heap.size ∧ wa.heap.size = kb) := ⟨by rw [← hkb]; exact HM.out.2.1.lt, by omega, hkb⟩
     have DA := Lib.hid da
     rw [hkb] at mk
     have XB := Lib.hid mk
     rw [hkb]
     clear mk da sa hkb o0 o1 o2 o3 o4 o5
     obtain ⟨p0, p1, p2⟩ := (HM.out.on DA.out).2.2.2.cells
     go_upto_region 12 with fail
     have m1 := alloc_new' wb (.cells #[.int .i64 1, .string x.from', .int .i64 0, .int .i64 0, .string ⟨#[]⟩, .slice none 0 0, .slice none 0 0] 52)
     have d1 := below_alloc wb (.cells #[.int .i64 1, .string x.from', .int .i64 0, .int .i64 0, .string ⟨#[]⟩, .slice none 0 0, .slice none 0 0] 52)
     have s1 := World.size_alloc wb (.cells #[.int .i64 1, .string x.from', .int .i64 0, .int .i64 0, .string ⟨#[]⟩, .slice none 0 0, .slice none 0 0] 52)
     obtain ⟨kr, hkr⟩ : ∃ k, wb.heap.size = k := ⟨_, rfl⟩
     rw [hkr] at m1 ⊢
     generalize wb.alloc (.cells #[.int .i64 1, .string x.from', .int .i64 0, .int .i64 0, .string ⟨#[]⟩, .slice none 0 0, .slice none 0 0] 52) = w1 at *
     have m2 := boxLi_new w1 (.int .i64 1) (.string ⟨#[114]⟩) (.slice (some ⟨kr, 0, none⟩) 1 1)
     have d2 := below_alloc w1 (.cells #[.int .i64 1, .string ⟨#[114]⟩, .slice (some ⟨kr, 0, none⟩) 1 1] 46)
     have s2 := World.size_alloc w1 (.cells #[.int .i64 1, .string ⟨#[114]⟩, .slice (some ⟨kr, 0, none⟩) 1 1] 46)
     obtain ⟨k12, hkl⟩ : ∃ k, wb.heap.size + 1 = k := ⟨_, rfl⟩
     rw [show w1.heap.size = k12 by omega] at m2
     have KLo := KL.out
     generalize w1.alloc (.cells #[.int .i64 1, .string ⟨#[114]⟩, .slice (some ⟨kr, 0, none⟩) 1 1] 46) = w2 at *
     have m3 := (d2.block kr (by omega)).trans m1
     have HFS : Hid (x.from'.size ≤ maxLen) := lis_sizes HM.out.2.2.1.2.2.2.2.2.2.2.2.2 _ (from_of HOK.out HPZ.out)
     have HA : Hid (RepLi (fun b => b < w2.heap.size ∧ b ≠ kb) w2 (atL x.from') (.int .i64 1) (.string ⟨#[114]⟩) (.slice (some ⟨kr, 0, none⟩) 1 1)) := ⟨rfl, rfl, small64 (show (0 : Int) ≤ 1 ∧ (1 : Int) ≤ 100 by omega), (by decide +kernel : (⟨#[114]⟩ : ByteArray).size ≤ maxLen), slg_row m3 (by constructor <;> omega) rfl (show 1 * 104 ≤ 140737488355328 by omega) (fun i h => match i, h with | 0, _ => vT_rep _ _ HFS.out)⟩
     have HL := Lib.hid m2
     replace XB := Lib.hid (XB.out.on (Below.step d1 d2))
     replace DA := Lib.hid (Below.step DA.out (Below.step d1 d2))
     replace KL : Hid (k4 < kb ∧ kb < w2.heap.size ∧ wa.heap.size = kb) := ⟨KLo.1, by omega, KLo.2.2⟩
     rw [show kr + 1 = k12 by omega]
     clear m1 m2 m3 d1 d2 s1 s2 hkl hkr KLo HFS p0 p1 p2
     refine wp_region_factsP (by rfl) 112 (by rfl) (by kernel_rfl) 5 (fun q => q == 0 || q == 1 || q == 2 || q == 3 || q == 4) (by kernel_rfl) (fun ph wz iz vz => Mf w2.heap.size kb k4 r ya yc (atL x.from') (.int .i64 1) (.string ⟨#[114]⟩) (.slice (some ⟨kr, 0, none⟩) 1 1) ph wz iz vz) (fun ph w' => if ph = true then Below w2.heap.size w2 w' else Below w2.heap.size w2 w') (Below.drew (Below.refl _ _)) ⟨?s0, ?s1, ?s2, ?s3, ?s4, ?s5, ?s6, trivial⟩ (by rfl) ?last
     case s0 =>
      intro a w' hoff hg hdep K hK
      replace hg : Below w2.heap.size w2 w' := hg
      have h4 := off_at hoff 4 (v := .pointer (some ⟨k4, 0, none⟩)) (by kernel_rfl) rfl
      rw [if_pos (by rfl)]
      go_simp
      exact hK.out _ _ hg rfl (fun _ _ h => h)
     case s1 =>
      intro a w' hoff hg hdep K hK
      replace hg : Below w2.heap.size w2 w' := hg
      obtain ⟨v0, e0, f0⟩ := hdep 0 _ 64 (by kernel_rfl) rfl rfl
      obtain rfl : v0 = .pointer (some ⟨k4, 5, none⟩) := f0
      rw [if_pos (by rfl)]
      obtain ⟨o0, o1, o2, o3, o4, o5⟩ := (HM.out.on (Below.step DA.out hg)).2.1.cells
      go_simp
      exact hK.out _ _ hg rfl (fun _ _ h => h)
     case s2 =>
      intro a w' hoff hg hdep K hK
      replace hg : Below w2.heap.size w2 w' := hg
      obtain ⟨v1, e1, f1⟩ := hdep 1 _ 65 (by kernel_rfl) rfl rfl
      obtain rfl : v1 = .slice ya r.body.length yc := f1
      have hw := Below.step DA.out hg
      have KLo := KL.out
      have hgs := hg.size
      have hrr : SlG (fun b => b < w2.heap.size ∧ b ≠ kb) w' kdLi.n kdLi.bytes (kdLi.R (fun b => b < w2.heap.size ∧ b ≠ kb) w') r.body (.slice ya r.body.length yc) := RepLis.on (fun b (hb : b < k4) => (by constructor <;> omega : b < w2.heap.size ∧ b ≠ kb)) (fun b _ => rfl) (HM.out.on hw).2.2.1.2.2.2.2.2.2.2.2.2
      obtain ⟨v', w6, hrun, hown, hgr⟩ := own_manyS (K := kdLi) (S := (fun b => b < w2.heap.size ∧ b ≠ kb)) (L := []) (m := r.body) (lv := .slice none 0 0) (OwnK.nil _ w' w2.heap.size) hrr (fun b (hb : b < w2.heap.size ∧ b ≠ kb) => ⟨(by omega), by simp [Value.ownBlock]⟩) hg.size (by have := HBL.out; simp; omega) 41
      refine step_append_by rfl (.const (.slice none 0 0)) (.tmp 65) 41 rfl (by simp [Act.eval]) (by simp [Act.eval, e1]) hrun ?_
      have hb : Below w'.heap.size w' w6 := ⟨hgr.os, hgr.tape, hgr.output, hgr.size, fun j hj => hgr.block j hj (by simp [Value.ownBlock])⟩
      exact hK.out _ _ (Below.step hg hb) (fun _ => ⟨(by have := hb.size; omega), by simpa using hown⟩) (fun j u h => Mf.stay _ _ _ _ _ _ _ _ _ _ hb j u h)
     case s3 =>
      intro a w' hoff hg hdep K hK
      replace hg : Below w2.heap.size w2 w' := hg
      have h12 := off_at hoff 12 (v := .pointer (some ⟨k12, 0, none⟩)) (by kernel_rfl) rfl
      rw [if_pos (by rfl)]
      obtain ⟨t0, t1, t2⟩ := (HL.out.on hg).cells
      go_simp
      exact hK.out _ _ hg rfl (fun _ _ h => h)
     case s4 =>
      intro a w' hoff hg hdep K hK
      replace hg : Below w2.heap.size w2 w' := hg
      obtain ⟨v3, e3, f3⟩ := hdep 3 _ 67 (by kernel_rfl) rfl rfl
      obtain rfl : v3 = .agg #[.int .i64 1, .string ⟨#[114]⟩, .slice (some ⟨kr, 0, none⟩) 1 1] := f3
      rw [if_pos (by rfl)]
      go_simp
      have hb := below_alloc w' (.cells #[.int .i64 1, .string ⟨#[114]⟩, .slice (some ⟨kr, 0, none⟩) 1 1] 46)
      exact hK.out _ _ (Below.step hg hb) (fun _ => RowOf.new (Nat.zero_le _)) (fun j u h => Mf.stay _ _ _ _ _ _ _ _ _ _ hb j u h)
     case s5 =>
      intro a w' hoff hg hdep K hK
      replace hg : Below w2.heap.size w2 w' := hg
      obtain ⟨v2, e2, f2⟩ := hdep 2 _ 66 (by kernel_rfl) rfl rfl
      replace f2 : w2.heap.size ≤ w'.heap.size ∧ OwnK kdLi (fun b => b < w2.heap.size ∧ b ≠ kb) w' w2.heap.size r.body v2 := f2 rfl
      obtain ⟨v4, e4, f4⟩ := hdep 4 _ 68 (by kernel_rfl) rfl rfl
      replace f4 : RowOf 0 (.cells #[.int .i64 1, .string ⟨#[114]⟩, .slice (some ⟨kr, 0, none⟩) 1 1] 46 (0, 0)) w' v4 := f4 rfl
      obtain ⟨rb, rfl, hbk, -⟩ := f4
      have hown0 := f2.2
      have KLo := KL.out
      obtain ⟨v', w6, hrun, hown, hgr⟩ := own_manyS (K := kdLi) (S := (fun b => b < w2.heap.size ∧ b ≠ kb)) (S1 := fun _ => True) (L := r.body) (m := [(atL x.from')]) (lv := v2) hown0 (one_row (c := at3v (.int .i64 1) (.string ⟨#[114]⟩) (.slice (some ⟨kr, 0, none⟩) 1 1)) hbk trivial (fun j hj => match j, hj with | 0, _ => rfl | 1, _ => rfl | 2, _ => rfl) (RepLi.on (fun _ h => h) (fun b (hb : b < w2.heap.size ∧ b ≠ kb) => hg.block b hb.1) HA.out)) (fun b (hb : b < w2.heap.size ∧ b ≠ kb) => ⟨(by have := f2.1; omega), fun e => by have := (OwnK.lies hown0 b e).1; omega⟩) hg.size (by have := HBL.out; simp; omega) 41
      refine step_append_by rfl (.tmp 66) (.tmp 68) 41 rfl (by simp [Act.eval, e2]) (by simp [Act.eval, e4]) hrun ?_
      have hG2 : Below w2.heap.size w2 w6 := ⟨hgr.os.trans hg.os, hgr.tape.trans hg.tape, hgr.output.trans hg.output, Nat.le_trans hg.size hgr.size, fun j hj => (hgr.block j (Nat.lt_of_lt_of_le hj hg.size) (fun e => by have := (OwnK.lies hown0 j e.symm).1; omega)).trans (hg.block j hj)⟩
      exact hK.out _ _ hG2 (fun _ => hown) (fun j u hne h => Mf.pass _ _ _ _ _ _ _ _ _ _ j u hne h)
     case s6 =>
      intro ph a w' hoff hg hdep K hK
      have h11 := off_at hoff 11 (v := .pointer (some ⟨kb, 0, none⟩)) (by kernel_rfl) rfl
      rw [if_pos (by rfl)]
      go_simp
      exact hK.out _ _ hg rfl (fun _ _ h => h)
     case last =>
      intro a w' hoff hg hf
      replace hg : Below w2.heap.size w2 w' := hg
      obtain ⟨v0, e0, f0⟩ := hf 0 _ 64 (by decide) rfl rfl
      obtain rfl : v0 = .pointer (some ⟨k4, 5, none⟩) := f0
      obtain ⟨v1, e1, f1⟩ := hf 1 _ 65 (by decide) rfl rfl
      obtain rfl : v1 = .slice ya r.body.length yc := f1
      obtain ⟨v2, e2, f2⟩ := hf 2 _ 66 (by decide) rfl rfl
      clear f2
      obtain ⟨v3, e3, f3⟩ := hf 3 _ 67 (by decide) rfl rfl
      obtain rfl : v3 = .agg #[.int .i64 1, .string ⟨#[114]⟩, .slice (some ⟨kr, 0, none⟩) 1 1] := f3
      obtain ⟨v4, e4, f4⟩ := hf 4 _ 68 (by decide) rfl rfl
      clear f4
      obtain ⟨v5, e5, f5⟩ := hf 5 _ 69 (by decide) rfl rfl
      replace f5 : OwnK kdLi (fun b => b < w2.heap.size ∧ b ≠ kb) w' w2.heap.size (r.body ++ [((atL x.from'))]) v5 := f5 rfl
      obtain ⟨v6, e6, f6⟩ := hf 6 _ 70 (by decide) rfl rfl
      obtain rfl : v6 = .pointer (some ⟨kb, 5, none⟩) := f6
      have KLo := KL.out
      obtain ⟨Mkb, hM⟩ : ∃ M, r.body ++ [(atL x.from')] = M := ⟨_, rfl⟩
      rw [hM] at f5
      have hml : Mkb.length ≤ 100000 := by rw [← hM, List.length_append]; have := HBL.out; simp; omega
      obtain ⟨na, nc, rfl⟩ := OwnK.form f5
      have hy := (hg.block kb (by omega)).trans XB.out
      obtain ⟨o0, o1, o2, o3, o4, o5⟩ := BoxRu.cells hy
      have z5 := frozen_of_row w' kb 5 _ _ hy
      rw [if_pos (by rfl)]
      rw [hoff.sets [(64, .pointer (some ⟨k4, 5, none⟩)), (65, .slice ya r.body.length yc), (66, v2), (67, .agg #[.int .i64 1, .string ⟨#[114]⟩, .slice (some ⟨kr, 0, none⟩) 1 1]), (68, v4), (69, .slice na Mkb.length nc), (70, .pointer (some ⟨kb, 5, none⟩))] (by kernel_rfl) (by intro p hp; simp only [List.mem_cons, List.not_mem_nil, or_false] at hp; rcases hp with rfl | rfl | rfl | rfl | rfl | rfl | rfl <;> assumption)]
      clear hoff hf e0 e1 e2 e3 e4 e5 e6
      simp only [List.foldl_cons, List.foldl_nil, List.setIfInBounds_toArray, List.set_cons_zero, List.set_cons_succ]
      go_simp
      clear o0 o1 o2 o3 o4 o5 z5
      have mk : BoxRu (w'.setCell ⟨kb, 5, none⟩ (.slice na Mkb.length nc)) kb (.string r.label) (.string r.head) (.slice (some ⟨zb, zo, none⟩) r.args.length xc) (.string r.agg) (.int .i64 r.at') (.slice na Mkb.length nc) := heap_setCell_same _ _ _ _ _ _ hy
      have hbw : Below wa.heap.size wa (w'.setCell ⟨kb, 5, none⟩ (.slice na Mkb.length nc)) := Below.setCell (p := ⟨kb, 5, none⟩) (Below.step DA.out hg) (by show wa.heap.size ≤ kb; omega) _
      have hsz : (w'.setCell ⟨kb, 5, none⟩ (.slice na Mkb.length nc)).heap.size = w'.heap.size := by simp [World.setCell]
      have hgs := hg.size
      have hne : ∀ b, b ≠ kb → (w'.setCell ⟨kb, 5, none⟩ (.slice na Mkb.length nc)).heap[b]? = w'.heap[b]? := fun b hb => Below.heap_setCell _ _ _ _ hb
      have ho : OwnK kdLi (fun b => b < w2.heap.size ∧ b ≠ kb) (w'.setCell ⟨kb, 5, none⟩ (.slice na Mkb.length nc)) w2.heap.size Mkb (.slice na Mkb.length nc) := OwnK.on f5 (fun _ h => h) (fun b hb => hne b hb.2) (fun b h1 _ _ => hne b (by omega))
      have HM2 := Lib.hid (HM.out.on hbw)
      have hrep : Hid (RepRu (fun b => b < (w'.setCell ⟨kb, 5, none⟩ (.slice na Mkb.length nc)).heap.size) (w'.setCell ⟨kb, 5, none⟩ (.slice na Mkb.length nc)) (moreRu r ((atL x.from'))) (.string r.label) (.string r.head) (.slice (some ⟨zb, zo, none⟩) r.args.length xc) (.string r.agg) (.int .i64 r.at') (.slice na Mkb.length nc)) := ⟨HM2.out.2.2.1.1, HM2.out.2.2.1.2.1, HM2.out.2.2.1.2.2.1, HM2.out.2.2.1.2.2.2.1, HM2.out.2.2.1.2.2.2.2.1, HM2.out.2.2.1.2.2.2.2.2.1, HM2.out.2.2.1.2.2.2.2.2.2.1, HM2.out.2.2.1.2.2.2.2.2.2.2.1, RepMs.on (fun b (hb : b < k4) => (by omega : b < (w'.setCell ⟨kb, 5, none⟩ (.slice na Mkb.length nc)).heap.size)) (fun _ _ => rfl) HM2.out.2.2.1.2.2.2.2.2.2.2.2.1, by show RepLis _ _ (r.body ++ [_]) _; rw [hM]; exact OwnK.slg' ho (fun b (hb : b < w2.heap.size ∧ b ≠ kb) => (by omega : b < (w'.setCell ⟨kb, 5, none⟩ (.slice na Mkb.length nc)).heap.size)) (fun b h1 h2 => h2) hml⟩
      have MK2 := Lib.hid mk
      replace X9 := Lib.hid (X9.out.on hbw)
      clear hM hml hy mk hbw hsz hgs hne ho HM HL HA DA XB KL hg KLo f5
      have HM := HM2
      clear HM2
      generalize (w'.setCell ⟨kb, 5, none⟩ (.slice na Mkb.length nc)) = wc at *
      obtain ⟨o0, o1, o2, o3, o4, o5⟩ := MK2.out.cells
      go_wp2_with fail
      refine (locPlace_any (moreRu r ((atL x.from'))) (fun b => b < wc.heap.size) wc _ _ _ _ _ _ (fun _ h => h) (Nat.lt_of_lt_of_le HG.out HM.out.1.size) (TabOk.below HT.out HG.out HM.out.1) hrep.out).mono ?_
      rintro e wd ⟨rfl, hb⟩
      replace HM := Lib.hid (HM.out.on hb)
      replace X9 := Lib.hid (X9.out.on hb)
      rw [show placeZ (moreRu r (atL x.from')) = (x, true) from place_at HOK.out HBL.out HPZ.out, plRet]
      clear hb hrep MK2 o0 o1 o2 o3 o4 o5
      go_upto_region 14 with fail
      have mb := alloc_new' wd (.cells #[.string x.from', .string x.to', .string x.head] 37)
      have da := below_alloc wd (.cells #[.string x.from', .string x.to', .string x.head] 37)
      generalize wd.alloc (.cells #[.string x.from', .string x.to', .string x.head] 37) = we at *
      replace HM := Lib.hid (HM.out.on da)
      replace X9 := Lib.hid (X9.out.on da)
      obtain ⟨k13, hnb⟩ : ∃ k, wd.heap.size = k := ⟨_, rfl⟩
      rw [hnb] at mb ⊢
      have X13 : Hid (BoxPl we k13 (.string x.from') (.string x.to') (.string x.head)) := mb
      clear mb da hnb
      generalize we = wa at *
      obtain ⟨o0, o1, o2, o3, o4, o5⟩ := HM.out.2.1.cells
      go_upto_region 15 with fail
      have mk := boxRu_new wa (.string r.label) (.string r.head) (.slice (some ⟨zb, zo, none⟩) r.args.length xc) (.string r.agg) (.int .i64 r.at') (.slice ya r.body.length yc)
      have da := below_alloc wa (.cells #[.string r.label, .string r.head, .slice (some ⟨zb, zo, none⟩) r.args.length xc, .string r.agg, .int .i64 r.at', .slice ya r.body.length yc] 43)
      have sa := World.size_alloc wa (.cells #[.string r.label, .string r.head, .slice (some ⟨zb, zo, none⟩) r.args.length xc, .string r.agg, .int .i64 r.at', .slice ya r.body.length yc] 43)
      generalize wa.alloc (.cells #[.string r.label, .string r.head, .slice (some ⟨zb, zo, none⟩) r.args.length xc, .string r.agg, .int .i64 r.at', .slice ya r.body.length yc] 43) = wb at *
      obtain ⟨kb, hkb⟩ : ∃ k, wa.heap.size = k := ⟨_, rfl⟩
      have KL : Hid (k4 < kb ∧ kb < wb.heap.size ∧ wa.heap.size = kb) := ⟨by rw [← hkb]; exact HM.out.2.1.lt, by omega, hkb⟩
      have DA := Lib.hid da
      rw [hkb] at mk
      have XB := Lib.hid mk
      rw [hkb]
      clear mk da sa hkb o0 o1 o2 o3 o4 o5
      have KLo := KL.out
      have hrr : SlG (fun b => b < wb.heap.size ∧ b ≠ kb) wb kdLi.n kdLi.bytes (kdLi.R (fun b => b < wb.heap.size ∧ b ≠ kb) wb) r.body (.slice ya r.body.length yc) := RepLis.on (fun b (hb : b < k4) => (by constructor <;> omega : b < wb.heap.size ∧ b ≠ kb)) (fun b _ => rfl) (HM.out.on DA.out).2.2.1.2.2.2.2.2.2.2.2.2
      obtain ⟨v8, w8, hrun8, hown8, hgr8⟩ := own_manyS (K := kdLi) (S := (fun b => b < wb.heap.size ∧ b ≠ kb)) (L := []) (m := r.body) (lv := .slice none 0 0) (OwnK.nil _ wb wb.heap.size) hrr (fun b hb => ⟨hb.1, by simp [Value.ownBlock]⟩) (Nat.le_refl _) (by have := HBL.out; simp; omega) 41
      rw [List.nil_append] at hown8
      have hb8 : Below wb.heap.size wb w8 := ⟨hgr8.os, hgr8.tape, hgr8.output, hgr8.size, fun j hj => hgr8.block j hj (by simp [Value.ownBlock])⟩
      obtain ⟨ga8, gc8, rfl⟩ := OwnK.form hown8
      have m1 := alloc_new' w8 (.cells #[.int .i64 1, .string ⟨#[79, 116, 104, 101, 114]⟩, .int .i64 0, .int .i64 0, .string ⟨#[]⟩, .slice none 0 0, .slice none 0 0] 52)
      have d1 := below_alloc w8 (.cells #[.int .i64 1, .string ⟨#[79, 116, 104, 101, 114]⟩, .int .i64 0, .int .i64 0, .string ⟨#[]⟩, .slice none 0 0, .slice none 0 0] 52)
      have s1 := World.size_alloc w8 (.cells #[.int .i64 1, .string ⟨#[79, 116, 104, 101, 114]⟩, .int .i64 0, .int .i64 0, .string ⟨#[]⟩, .slice none 0 0, .slice none 0 0] 52)
      obtain ⟨w9, hw9⟩ : ∃ w, w8.alloc (.cells #[.int .i64 1, .string ⟨#[79, 116, 104, 101, 114]⟩, .int .i64 0, .int .i64 0, .string ⟨#[]⟩, .slice none 0 0, .slice none 0 0] 52) = w := ⟨_, rfl⟩
      rw [hw9] at m1 d1 s1
      have m2 := alloc_new' w9 (.cells #[.int .i64 1, .string ⟨#[114]⟩, .slice (some ⟨w8.heap.size, 0, none⟩) 1 1] 46)
      have d2 := below_alloc w9 (.cells #[.int .i64 1, .string ⟨#[114]⟩, .slice (some ⟨w8.heap.size, 0, none⟩) 1 1] 46)
      have s2 := World.size_alloc w9 (.cells #[.int .i64 1, .string ⟨#[114]⟩, .slice (some ⟨w8.heap.size, 0, none⟩) 1 1] 46)
      obtain ⟨w10, hw10⟩ : ∃ w, w9.alloc (.cells #[.int .i64 1, .string ⟨#[114]⟩, .slice (some ⟨w8.heap.size, 0, none⟩) 1 1] 46) = w := ⟨_, rfl⟩
      rw [hw10, s1] at m2; rw [hw10] at d2 s2
      have d12 := Below.step d1 d2
      have hs8 := hb8.size
      have m3 := (d2.block w8.heap.size (by omega)).trans m1
      have hlies := OwnK.lies hown8
      have hlrep : RepLi (fun b => (b < wb.heap.size ∨ w8.heap.size ≤ b ∧ b < w10.heap.size) ∧ b ≠ kb) w10 (atL ⟨#[79, 116, 104, 101, 114]⟩) (.int .i64 1) (.string ⟨#[114]⟩) (.slice (some ⟨w8.heap.size, 0, none⟩) 1 1) := ⟨rfl, rfl, small64 (show (0 : Int) ≤ 1 ∧ (1 : Int) ≤ 100 by omega), (by decide +kernel : (⟨#[114]⟩ : ByteArray).size ≤ maxLen), slg_row m3 (by constructor; right; constructor <;> omega; omega) rfl (show 1 * 104 ≤ 140737488355328 by omega) (fun i h => match i, h with | 0, _ => vT_rep _ _ (by decide +kernel))⟩
      have hown0 : OwnK kdLi (fun b => (b < wb.heap.size ∨ w8.heap.size ≤ b ∧ b < w10.heap.size) ∧ b ≠ kb) w10 wb.heap.size r.body (.slice ga8 r.body.length gc8) := by
       obtain ⟨xs, hx, hr⟩ := hown8
       have h2 := OwnK.on ⟨xs, hx, hr⟩ (fun _ h => h) (fun b (hb : b < wb.heap.size ∧ b ≠ kb) => d12.block b (by omega)) (fun b _ hb _ => d12.block b hb)
       exact OwnK.on h2 (fun b hb => ⟨.inl hb.1, hb.2⟩) (fun _ _ => rfl) (fun _ _ _ _ => rfl)
      obtain ⟨v9, w', hrun9, hown9, hgr⟩ := own_manyS (K := kdLi) (S := (fun b => (b < wb.heap.size ∨ w8.heap.size ≤ b ∧ b < w10.heap.size) ∧ b ≠ kb)) (S1 := fun _ => True) (L := r.body) (m := [(atL ⟨#[79, 116, 104, 101, 114]⟩)]) (lv := .slice ga8 r.body.length gc8) hown0 (one_row (c := at3v (.int .i64 1) (.string ⟨#[114]⟩) (.slice (some ⟨w8.heap.size, 0, none⟩) 1 1)) m2 trivial (fun j hj => match j, hj with | 0, _ => rfl | 1, _ => rfl | 2, _ => rfl) hlrep) (fun b (hb : (b < wb.heap.size ∨ w8.heap.size ≤ b ∧ b < w10.heap.size) ∧ b ≠ kb) => ⟨(by omega), fun e => by have := hlies b e; omega⟩) (by omega) (by have := HBL.out; simp; omega) 41
      have hb10 := Below.step hb8 d12
      have hg : Below wb.heap.size wb w' := ⟨hgr.os.trans hb10.os, hgr.tape.trans hb10.tape, hgr.output.trans hb10.output, Nat.le_trans hb10.size hgr.size, fun j hj => (hgr.block j (Nat.lt_of_lt_of_le hj hb10.size) (fun e => by have := hlies j e.symm; omega)).trans (hb10.block j hj)⟩
      obtain ⟨Mkb, hM⟩ : ∃ M, r.body ++ [(atL ⟨#[79, 116, 104, 101, 114]⟩)] = M := ⟨_, rfl⟩
      rw [hM] at hown9
      have hml : Mkb.length ≤ 100000 := by rw [← hM, List.length_append]; have := HBL.out; simp; omega
      obtain ⟨na, nc, rfl⟩ := OwnK.form hown9
      have HR8 := Lib.hid hrun8; have HR9 := Lib.hid hrun9
      have hy := (hg.block kb (by omega)).trans XB.out
      have hs9 : w10.heap.size ≤ w'.heap.size := hgr.size
      obtain ⟨o0, o1, o2, o3, o4, o5⟩ := (HM.out.on DA.out).2.1.cells
      obtain ⟨y0, y1, y2, y3, y4, y5⟩ := BoxRu.cells hy
      have z5 := frozen_of_row w' kb 5 _ _ hy
      have HY := Lib.hid hy; have F5 := Lib.hid hown9; have HG9 := Lib.hid hg; have HM9 := Lib.hid hM; have HML := Lib.hid hml; have HS9 : Hid (w8.heap.size = w8.heap.size ∧ wb.heap.size ≤ w8.heap.size ∧ w10.heap.size ≤ w'.heap.size) := ⟨rfl, hs8, hs9⟩
      clear hy hown9 hg hM hml hs9 KLo s2
      clear hrun8 hrun9 hown0 hlrep hown8 hgr8 hgr hb10 hlies hrr hb8 m1 m2 m3 d1 d2 d12 hs8
      go_upto_region 16 with (at_builtin; first | (refine wpList_append_by rfl _ _ _ rfl rfl rfl HR8.out ?_) | (refine wpList_append_by rfl _ _ _ rfl rfl rfl HR9.out ?_))
      have KLo := KL.out
      have hy := HY.out; have hg := HG9.out; have hM := HM9.out; have hml := HML.out; have hs9 := HS9.out; have hown9 := F5.out
      clear HY HG9 HM9 HML HS9 F5 HR8 HR9 o0 o1 o2 o3 o4 o5 y0 y1 y2 y3 y4 y5 z5
      have mk : BoxRu (w'.setCell ⟨kb, 5, none⟩ (.slice na Mkb.length nc)) kb (.string r.label) (.string r.head) (.slice (some ⟨zb, zo, none⟩) r.args.length xc) (.string r.agg) (.int .i64 r.at') (.slice na Mkb.length nc) := heap_setCell_same _ _ _ _ _ _ hy
      have hbw : Below wa.heap.size wa (w'.setCell ⟨kb, 5, none⟩ (.slice na Mkb.length nc)) := Below.setCell (p := ⟨kb, 5, none⟩) (Below.step DA.out hg) (by show wa.heap.size ≤ kb; omega) _
      have hsz : (w'.setCell ⟨kb, 5, none⟩ (.slice na Mkb.length nc)).heap.size = w'.heap.size := by simp [World.setCell]
      have hgs := hg.size
      have hne : ∀ b, b ≠ kb → (w'.setCell ⟨kb, 5, none⟩ (.slice na Mkb.length nc)).heap[b]? = w'.heap[b]? := fun b hb => Below.heap_setCell _ _ _ _ hb
      have ho : OwnK kdLi (fun b => (b < wb.heap.size ∨ w8.heap.size ≤ b ∧ b < w10.heap.size) ∧ b ≠ kb) (w'.setCell ⟨kb, 5, none⟩ (.slice na Mkb.length nc)) wb.heap.size Mkb (.slice na Mkb.length nc) := OwnK.on hown9 (fun _ h => h) (fun b hb => hne b hb.2) (fun b h1 _ _ => hne b (by omega))
      have HM2 := Lib.hid (HM.out.on hbw)
      have hrep : Hid (RepRu (fun b => b < (w'.setCell ⟨kb, 5, none⟩ (.slice na Mkb.length nc)).heap.size) (w'.setCell ⟨kb, 5, none⟩ (.slice na Mkb.length nc)) (moreRu r ((atL ⟨#[79, 116, 104, 101, 114]⟩))) (.string r.label) (.string r.head) (.slice (some ⟨zb, zo, none⟩) r.args.length xc) (.string r.agg) (.int .i64 r.at') (.slice na Mkb.length nc)) := ⟨HM2.out.2.2.1.1, HM2.out.2.2.1.2.1, HM2.out.2.2.1.2.2.1, HM2.out.2.2.1.2.2.2.1, HM2.out.2.2.1.2.2.2.2.1, HM2.out.2.2.1.2.2.2.2.2.1, HM2.out.2.2.1.2.2.2.2.2.2.1, HM2.out.2.2.1.2.2.2.2.2.2.2.1, RepMs.on (fun b (hb : b < k4) => (by omega : b < (w'.setCell ⟨kb, 5, none⟩ (.slice na Mkb.length nc)).heap.size)) (fun _ _ => rfl) HM2.out.2.2.1.2.2.2.2.2.2.2.2.1, by show RepLis _ _ (r.body ++ [_]) _; rw [hM]; exact OwnK.slg' ho (fun b (hb : (b < wb.heap.size ∨ w8.heap.size ≤ b ∧ b < w10.heap.size) ∧ b ≠ kb) => (by omega : b < (w'.setCell ⟨kb, 5, none⟩ (.slice na Mkb.length nc)).heap.size)) (fun b h1 h2 => h2) hml⟩
      have MK2 := Lib.hid mk
      replace X9 := Lib.hid (X9.out.on hbw)
      replace X13 := Lib.hid (X13.out.on hbw)
      clear hM hml hy mk hbw hsz hgs hne ho HM DA XB KL hg KLo hown9
      have HM := HM2
      clear HM2
      generalize (w'.setCell ⟨kb, 5, none⟩ (.slice na Mkb.length nc)) = wc at *
      obtain ⟨o0, o1, o2, o3, o4, o5⟩ := MK2.out.cells
      go_wp2_with fail
      refine (locPlace_any (moreRu r ((atL ⟨#[79, 116, 104, 101, 114]⟩))) (fun b => b < wc.heap.size) wc _ _ _ _ _ _ (fun _ h => h) (Nat.lt_of_lt_of_le HG.out HM.out.1.size) (TabOk.below HT.out HG.out HM.out.1) hrep.out).mono ?_
      rintro e wd ⟨rfl, hb⟩
      replace HM := Lib.hid (HM.out.on hb)
      replace X9 := Lib.hid (X9.out.on hb)
      replace X13 := Lib.hid (X13.out.on hb)
      rw [show placeZ (moreRu r (atL ⟨#[79, 116, 104, 101, 114]⟩)) = (zPl, false) from place_oth HOK.out HSH.out, plRet]
      clear hb hrep MK2 o0 o1 o2 o3 o4 o5
      go_upto_region 17 with fail
      have mb := alloc_new' wd (.cells #[.string zPl.from', .string zPl.to', .string zPl.head] 37)
      have da := below_alloc wd (.cells #[.string zPl.from', .string zPl.to', .string zPl.head] 37)
      generalize wd.alloc (.cells #[.string zPl.from', .string zPl.to', .string zPl.head] 37) = we at *
      replace HM := Lib.hid (HM.out.on da)
      replace X9 := Lib.hid (X9.out.on da)
      replace X13 := Lib.hid (X13.out.on da)
      obtain ⟨k17, hnb⟩ : ∃ k, wd.heap.size = k := ⟨_, rfl⟩
      rw [hnb] at mb ⊢
      have X17 : Hid (BoxPl we k17 (.string zPl.from') (.string zPl.to') (.string zPl.head)) := mb
      clear mb da hnb
      obtain ⟨p0, p1, p2⟩ := HM.out.2.2.2.cells
      obtain ⟨q0, q1, q2⟩ := X9.out.cells
      obtain ⟨s0, s1, s2⟩ := X13.out.cells
      go_wp2_with fail
      go_ret
      exact ⟨rfl, HM.out.1⟩
end Go.Proofs.YtjohcnhiblfbnaaGreatDoor.locateMore
