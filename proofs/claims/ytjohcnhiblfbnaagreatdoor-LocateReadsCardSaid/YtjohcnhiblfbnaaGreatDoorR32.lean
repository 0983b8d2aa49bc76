/-
  LawLReads
-/
import Derived.Test.YtjohcnhiblfbnaaGreatDoorR23
import Derived.Test.YtjohcnhiblfbnaaGreatDoorR29
import Derived.Test.YtjohcnhiblfbnaaGreatDoorR30
import Derived.Test.YtjohcnhiblfbnaaGreatDoorR31
import Derived.Test.YtjohcnhiblfbnaaGreatDoorR05
namespace Go.Proofs.YtjohcnhiblfbnaaGreatDoor.locateReads
open Go.RowKit
theorem nil_of (s : ByteArray) : (s.toList == []) = decide (s.size = 0) := by
 rw [Bool.eq_iff_iff, beq_iff_eq, decide_eq_true_eq, Lib.toList_data]
 have h : s.size = s.data.toList.length := by rw [Array.length_toList]; rfl
 rw [h, List.length_eq_zero_iff]
set_option maxRecDepth 100000 in
set_option maxHeartbeats 16000000 in
theorem walk (rules : List (List Rw)) (W : World) (va : Value) (htab : TabOk W) (ga : RepRwss (fun k => k < W.heap.size) W rules va) :
  Calls Tryz.prog 4 #[va] W fun e W' => e = .returned (.bool true) ∧ Below W.heap.size W W' := by
 have GA := Lib.hid ga; have HT := Lib.hid htab; have HG : Hid (0 < W.heap.size) := tab_lt htab
 clear ga htab
 go_enter Tryz.func4, Tryz.ntmps4
 go_wp2_with fail
 refine (awake7_any W HG.out HT.out).mono ?_
 rintro e w1 ⟨rfl, hb⟩
 have B1 := Lib.hid hb
 clear hb
 go_wp2_with fail
 refine (program_any rules [] (fun k => k < W.heap.size) w1 va (.slice none 0 0) (fun k hk => Nat.lt_of_lt_of_le hk B1.out.size) (SlG.on (fun _ h => h) (fun k hk => B1.out.block k hk) (fun x _ c h => SlG.on (fun _ h => h) (fun k hk => B1.out.block k hk) (fun _ _ _ h => h) h) GA.out) slg_nil).mono ?_
 rintro e w2 ⟨v0, v1, v2, rfl, hrep, hb⟩
 have HLN : Hid ((progZ rules []).rules.length ≤ 6) := by show _ ≤ _; show (rulesTo rules _).length ≤ 6; rw [rulesTo_len]; omega
 generalize progZ rules [] = q at *
 obtain ⟨d0, d1, rfl⟩ := SlG.form hrep.1
 obtain ⟨f0, f1, rfl⟩ := SlG.form hrep.2.1
 obtain ⟨r0, r1, rfl⟩ := SlG.form hrep.2.2
 have HRP := Lib.hid hrep; have B2 := Lib.hid (Below.step B1.out hb)
 clear hrep hb B1 GA
 go_upto_region 3 with fail
 have mk := boxPr_new w2 (.slice d0 q.decls.length d1) (.slice f0 q.facts.length f1) (.slice r0 q.rules.length r1)
 have da := below_alloc w2 (.cells #[.slice d0 q.decls.length d1, .slice f0 q.facts.length f1, .slice r0 q.rules.length r1] 26)
 generalize w2.alloc (.cells #[.slice d0 q.decls.length d1, .slice f0 q.facts.length f1, .slice r0 q.rules.length r1] 26) = w3 at *
 have G3 : Hid (RepPr (fun k => k < w2.heap.size) w3 q (.slice d0 q.decls.length d1) (.slice f0 q.facts.length f1) (.slice r0 q.rules.length r1)) := RepPr.on (fun k hk => hk.2) (fun k hk => da.block k hk.2) HRP.out
 have B3 := Lib.hid (Below.step B2.out da)
 have K3 : Hid (w2.heap.size ≤ w3.heap.size) := da.size
 obtain ⟨k6, hk6⟩ : ∃ k, w2.heap.size = k := ⟨_, rfl⟩
 rw [hk6] at mk G3 K3 ⊢
 have X3 := Lib.hid mk
 clear mk da hk6 HRP B2
 go_wp2_with fail
 go_loopw [5] (fun i wr => ∃ k : Nat, k ≤ q.rules.length ∧ i = .int .i64 k ∧ Hid (Below w3.heap.size w3 wr)) (fun i _ => q.rules.length - (intOf i).toNat)
 case atStart => exact ⟨0, Nat.zero_le _, rfl, Below.refl _ _⟩
 case round =>
  obtain ⟨k, hk, rfl, hbel⟩ := hrel
  obtain ⟨o0, o1, o2⟩ := (X3.out.on hbel.out).cells
  by_cases hl : k < q.rules.length
  ·have i1 : decide ((k : Int) < (q.rules.length : Int)) = true := decide_eq_true (by omega)
   have i2 : decide (k < q.rules.length) = true := decide_eq_true hl
   have i3 : (0 : Int) ≤ (k : Int) := Int.natCast_nonneg k
   have i4 : (k : Int) < (q.rules.length : Int) := by omega
   have P3 := Lib.hid (RepPr.on (fun _ h => h) (fun k (hk : k < k6) => hbel.out.block k (Nat.lt_of_lt_of_le hk K3.out)) G3.out)
   obtain ⟨-, -, lb, lo, xa, xc, ya, yc, rfl, hSb, g0, g1, g2, g3, g4, g5, g⟩ := RepRus.at P3.out.2.2 k hl
   have GR := Lib.hid g
   have HKL := Lib.hid hl
   have HSZ : Hid (k6 ≤ wr.heap.size) := Nat.le_trans K3.out hbel.out.size
   clear g hSb P3
   generalize q.rules[k] = r at *
   clear hl hk
   have mk := boxRu_new wr (.string r.label) (.string r.head) (.slice xa r.args.length xc) (.string r.agg) (.int .i64 r.at') (.slice ya r.body.length yc)
   have da := below_alloc wr (.cells #[.string r.label, .string r.head, .slice xa r.args.length xc, .string r.agg, .int .i64 r.at', .slice ya r.body.length yc] 43)
   go_upto_region 7 with fail
   generalize wr.alloc (.cells #[.string r.label, .string r.head, .slice xa r.args.length xc, .string r.agg, .int .i64 r.at', .slice ya r.body.length yc] 43) = w5 at *
   have GR5 : Hid (RepRu (fun k => k < k6) w5 r (.string r.label) (.string r.head) (.slice xa r.args.length xc) (.string r.agg) (.int .i64 r.at') (.slice ya r.body.length yc)) := RepRu.on (fun _ h => h) (fun k hk => da.block k (Nat.lt_of_lt_of_le hk HSZ.out)) GR.out
   have B5 := Lib.hid da
   have K5 : Hid (k6 ≤ w5.heap.size) := Nat.le_trans HSZ.out da.size
   obtain ⟨kr, hkr⟩ : ∃ k, wr.heap.size = k := ⟨_, rfl⟩
   rw [hkr] at mk ⊢
   have X6 := Lib.hid mk
   clear mk da hkr g0 g1 g2 g3 g4 g5 o0 o1 o2 i1 i2 i3 i4 GR
   obtain ⟨o0, o1, o2, o3, o4, o5⟩ := X6.out.cells
   have BW5 := Lib.hid (Below.step (Below.step B3.out hbel.out) B5.out)
   go_wp2_with fail
   refine (locPlace_any r (fun k => k < k6) w5 _ _ _ _ _ _ (fun j hj => Nat.lt_of_lt_of_le hj K5.out) (Nat.lt_of_lt_of_le HG.out BW5.out.size) (TabOk.below HT.out HG.out BW5.out) GR5.out).mono ?_
   rintro e w6 ⟨rfl, hb6⟩
   replace X6 := Lib.hid (X6.out.on hb6)
   have GR6 : Hid (RepRu (fun k => k < k6) w6 r (.string r.label) (.string r.head) (.slice xa r.args.length xc) (.string r.agg) (.int .i64 r.at') (.slice ya r.body.length yc)) := RepRu.on (fun _ h => h) (fun k hk => hb6.block k (Nat.lt_of_lt_of_le hk K5.out)) GR5.out
   have B6 := Lib.hid (Below.step B5.out hb6)
   have K6 : Hid (k6 ≤ w6.heap.size) := Nat.le_trans K5.out hb6.size
   obtain ⟨⟨p, bok⟩, hpz⟩ : ∃ p, placeZ r = p := ⟨_, rfl⟩
   rw [hpz, plRet]
   have HPZ := Lib.hid hpz
   clear hb6 hpz GR5 B5 K5 BW5 o0 o1 o2 o3 o4 o5
   go_upto_region 8 with fail
   have mb := alloc_new' w6 (.cells #[.string p.from', .string p.to', .string p.head] 37)
   have da := below_alloc w6 (.cells #[.string p.from', .string p.to', .string p.head] 37)
   generalize w6.alloc (.cells #[.string p.from', .string p.to', .string p.head] 37) = w7 at *
   obtain ⟨kp, hkp⟩ : ∃ k, w6.heap.size = k := ⟨_, rfl⟩
   rw [hkp] at mb ⊢
   have X7 : Hid (BoxPl w7 kp (.string p.from') (.string p.to') (.string p.head)) := mb
   replace X6 := Lib.hid (X6.out.on da)
   have GR7 : Hid (RepRu (fun k => k < k6) w7 r (.string r.label) (.string r.head) (.slice xa r.args.length xc) (.string r.agg) (.int .i64 r.at') (.slice ya r.body.length yc)) := RepRu.on (fun _ h => h) (fun k hk => da.block k (Nat.lt_of_lt_of_le hk K6.out)) GR6.out
   have B7 := Lib.hid (Below.step B6.out da)
   have K7 : Hid (k6 ≤ w7.heap.size) := Nat.le_trans K6.out da.size
   clear mb da hkp GR6 B6 K6 HSZ
   cases bok with
   | false =>
    obtain rfl : p = ⟨⟨#[]⟩, ⟨#[]⟩, ⟨#[]⟩⟩ := by
     have := placeZ_no (show (placeZ r).2 = false by rw [HPZ.out])
     rw [HPZ.out] at this
     exact congrArg Prod.fst this
    obtain ⟨p0, p1, p2⟩ := X7.out.cells
    go_wp2_with fail
    go_roundw
    case rel => exact ⟨k + 1, HKL.out, by have := HKL.out; have := HLN.out; rw [show wrap64 ((k : Int) + 1) = ((k + 1 : Nat) : Int) by unfold wrap64; omega], Below.step hbel.out B7.out⟩
    case measure => have := HKL.out; have := HLN.out; rw [show wrap64 ((k : Int) + 1) = ((k + 1 : Nat) : Int) by unfold wrap64; omega]; simp only [intOf]; omega
   | true =>
    have HOK : Hid ((placeZ r).2 = true) := by show _ = _; rw [HPZ.out]
    have HRB := Lib.hid (placeZ_ok HOK.out).1
    have HRD := Lib.hid (reads HOK.out HPZ.out)
    have HBL : Hid (r.body.length ≤ 8) := (ru_facts HRB.out).1
    go_wp2_with fail
    go_loopw [9] (fun i wv => ∃ j : Nat, j ≤ r.body.length ∧ i = .int .i64 j ∧ Hid (Below w7.heap.size w7 wv)) (fun i _ => r.body.length - (intOf i).toNat)
    case atStart => exact ⟨0, Nat.zero_le _, rfl, Below.refl _ _⟩
    case round =>
     obtain ⟨j, hj, rfl, hbn⟩ := hrel
     obtain ⟨o0, o1, o2, o3, o4, o5⟩ := (X6.out.on hbn.out).cells
     have BN : Hid (Below w7.heap.size w7 wr) := hbn
     have KN : Hid (k6 ≤ wr.heap.size) := Nat.le_trans K7.out hbn.out.size
     have GN : Hid (RepRu (fun k => k < k6) wr r (.string r.label) (.string r.head) (.slice xa r.args.length xc) (.string r.agg) (.int .i64 r.at') (.slice ya r.body.length yc)) := RepRu.on (fun _ h => h) (fun k hk => hbn.out.block k (Nat.lt_of_lt_of_le hk K7.out)) GR7.out
     clear hbn
     by_cases hl : j < r.body.length
     ·have i1 : decide ((j : Int) < (r.body.length : Int)) = true := decide_eq_true (by omega)
      have i2 : decide (j < r.body.length) = true := decide_eq_true hl
      have i3 : (0 : Int) ≤ (j : Int) := Int.natCast_nonneg j
      have i4 : (j : Int) < (r.body.length : Int) := by omega
      obtain ⟨-, -, lb, lo, ga, gc, hya, -, g0, g1, g2, g⟩ := RepLis.at GN.out.2.2.2.2.2.2.2.2.2 j hl
      subst hya
      have HJL := Lib.hid hl
      have HRX := Lib.hid (HRD.out.1 r.body[j] (List.getElem_mem hl))
      have GX : Hid (RepMs (fun k => k < k6) wr r.body[j].args (.slice ga r.body[j].args.length gc)) := g.2.2.2.2
      clear g
      generalize r.body[j] = x at *
      clear hl hj
      have mk := boxLi_new wr (.int .i64 x.kind) (.string x.name) (.slice ga x.args.length gc)
      have da := below_alloc wr (.cells #[.int .i64 x.kind, .string x.name, .slice ga x.args.length gc] 46)
      go_upto_region 15 with fail
      generalize wr.alloc (.cells #[.int .i64 x.kind, .string x.name, .slice ga x.args.length gc] 46) = w8 at *
      have B8 := Lib.hid (Below.step BN.out da)
      have K8 : Hid (k6 ≤ w8.heap.size) := Nat.le_trans KN.out da.size
      have GA8 : Hid (RepMs (fun k => k < k6) w8 x.args (.slice ga x.args.length gc)) := RepMs.on (fun _ h => h) (fun k hk => da.block k (Nat.lt_of_lt_of_le hk KN.out)) GX.out
      obtain ⟨kx, hkx⟩ : ∃ k, wr.heap.size = k := ⟨_, rfl⟩
      rw [hkx] at mk ⊢
      obtain ⟨p0, p1, p2⟩ := mk.cells
      obtain ⟨q0, q1, q2⟩ := (X7.out.on B8.out).cells
      clear mk da hkx g0 g1 g2 i1 i2 i3 i4 o0 o1 o2 o3 o4 o5 GX KN GN BN
      by_cases h1 : x.kind = 1
      ·have c1 : decide (x.kind = 1) = true := decide_eq_true h1
       have HAT := Lib.hid (HRX.out (by rw [hasPl, h1]; rfl))
       go_wp2_with fail
       have hat := at_any x p (fun b => b < k6) ga gc w8 (fun b hb => Nat.lt_of_lt_of_le hb K8.out) GA8.out HAT.out.1 HAT.out.2.1 HAT.out.2.2
       rw [h1] at hat
       refine hat.mono ?_
       clear hat
       rintro e w9 ⟨rfl, hb⟩
       have B9 := Lib.hid (Below.step B8.out hb)
       clear hb p0 p1 p2 q0 q1 q2
       go_wp2_with fail
       go_roundw
       case rel => exact ⟨j + 1, HJL.out, by have := HJL.out; have := HBL.out; rw [show wrap64 ((j : Int) + 1) = ((j + 1 : Nat) : Int) by unfold wrap64; omega], B9.out⟩
       case measure => have := HJL.out; have := HBL.out; rw [show wrap64 ((j : Int) + 1) = ((j + 1 : Nat) : Int) by unfold wrap64; omega]; simp only [intOf]; omega
      ·have c1 : decide (x.kind = 1) = false := decide_eq_false h1
       by_cases h2 : x.kind = 2
       ·have c2 : decide (x.kind = 2) = true := decide_eq_true h2
        have HAT := Lib.hid (HRX.out (by rw [hasPl, h2]; rfl))
        go_wp2_with fail
        have hat := at_any x p (fun b => b < k6) ga gc w8 (fun b hb => Nat.lt_of_lt_of_le hb K8.out) GA8.out HAT.out.1 HAT.out.2.1 HAT.out.2.2
        rw [h2] at hat
        refine hat.mono ?_
        clear hat
        rintro e w9 ⟨rfl, hb⟩
        have B9 := Lib.hid (Below.step B8.out hb)
        clear hb p0 p1 p2 q0 q1 q2
        go_wp2_with fail
        go_roundw
        case rel => exact ⟨j + 1, HJL.out, by have := HJL.out; have := HBL.out; rw [show wrap64 ((j : Int) + 1) = ((j + 1 : Nat) : Int) by unfold wrap64; omega], B9.out⟩
        case measure => have := HJL.out; have := HBL.out; rw [show wrap64 ((j : Int) + 1) = ((j + 1 : Nat) : Int) by unfold wrap64; omega]; simp only [intOf]; omega
       ·have c2 : decide (x.kind = 2) = false := decide_eq_false h2
        go_wp2_with fail
        go_roundw
        case rel => exact ⟨j + 1, HJL.out, by have := HJL.out; have := HBL.out; rw [show wrap64 ((j : Int) + 1) = ((j + 1 : Nat) : Int) by unfold wrap64; omega], B8.out⟩
        case measure => have := HJL.out; have := HBL.out; rw [show wrap64 ((j : Int) + 1) = ((j + 1 : Nat) : Int) by unfold wrap64; omega]; simp only [intOf]; omega
     ·have i1 : decide ((j : Int) < (r.body.length : Int)) = false := decide_eq_false (by omega)
      have i2 : decide (j < r.body.length) = false := decide_eq_false hl
      go_upto_region 17 with fail
      clear i1 i2 o0 o1 o2 o3 o4 o5 hl hj
      have h0 : 0 < r.args.length := (ru_facts HRB.out).2.2
      obtain ⟨-, -, zb, zo, za, zc, zg, zh, hxa, hzb, -, m1, -, -, -, -, -, -⟩ := RepMs.at GN.out.2.2.2.2.2.2.2.2.1 0 h0
      subst hxa
      simp only [Nat.zero_mul, Nat.add_zero] at m1
      have i0 : (0 : Int) < (r.args.length : Int) := by omega
      have hn := HRD.out.2.2.1
      rw [(kind0_at h0).2] at hn
      rw [hn] at m1
      have Z1 := Lib.hid m1
      have ZB : Hid (zb < wr.heap.size) := Nat.lt_of_lt_of_le hzb KN.out
      clear m1 hzb hn
      have j0 := h0
      clear h0
      have hl : (p.from'.toList == p.to'.toList) = false := by
       rw [Bool.eq_false_iff]; intro e; rw [beq_iff_eq, Lib.toList_data, Lib.toList_data] at e; exact HRD.out.2.1 (ByteArray.ext (Array.toList_inj.1 e))
      by_cases hto : 1 ≤ p.to'.size
      ·have ht : (p.to'.toList == []) = false := by rw [nil_of]; exact decide_eq_false (by omega)
       have HLK := Lib.hid (HRD.out.2.2.2.1 hto).1
       have hag : (r.agg.toList == []) = true := by
        rcases HRD.out.2.2.2.2.2.1 with h | h
        ·rw [← h]; cases r.agg.toList <;> rfl
        ·have := h.1; omega
       have hh := (HRD.out.2.2.2.1 hto).2
       clear hto
       by_cases hdd : p.head = p.from'
       ·have hd : (p.head.toList == p.from'.toList) = true := by rw [hdd]; exact beq_self_eq_true _
        clear hh hdd
        refine wp_region_factsG (by rfl) 146 (by rfl) (by kernel_rfl) (FA [.e (.pointer (some ⟨kp, 0, none⟩)), .e (.string p.from'), .e (.pointer (some ⟨kp, 1, none⟩)), .e (.string p.to'), .e (.bool false), .e (.bool false), .e (.pointer (some ⟨kr, 2, none⟩)), .e (.slice (some ⟨zb, zo, none⟩) r.args.length xc), .e (.pointer (some ⟨zb, zo, none⟩)), .e (.pointer (some ⟨zb, zo + 1, none⟩)), .e (.string p.head), .e (.pointer (some ⟨kp, 2, none⟩)), .e (.string p.head), .e (.bool false), .e (.bool false), .e (.bool false), .e (.pointer (some ⟨kp, 1, none⟩)), .e (.string p.to'), .e (.bool true), .e (.bool true), .e (.pointer (some ⟨kr, 5, none⟩)), .e (.slice ya r.body.length yc), .e (.pointer (some ⟨kp, 0, none⟩)), .e (.string p.from'), .e (.pointer (some ⟨kp, 1, none⟩)), .e (.string p.to'), .e (.bool true), .e (.bool false), .e (.bool false), .e (.pointer (some ⟨kp, 2, none⟩)), .e (.string p.head), .e (.pointer (some ⟨kp, 0, none⟩)), .e (.string p.from'), .e (.bool false), .e (.bool false), .e undef, .e undef, .e undef, .e undef, .e undef, .e (.bool false), .e (.bool false), .e (.bool false), .e (.bool false), .e (.bool false), .e (.pointer (some ⟨kp, 1, none⟩)), .e (.string p.to'), .e (.bool false), .e (.bool false), .e undef, .e undef, .e undef, .e undef, .e undef, .e (.bool false), .e (.bool false), .e undef, .e undef, .e undef, .e undef, .e undef, .e undef, .e undef, .e undef, .e (.bool false), .e (.bool false), .e (.bool false), .e (.pointer (some ⟨kr, 3, none⟩)), .e (.string r.agg), .e (.bool false), .e (.bool false), .e undef, .e undef, .e undef, .e undef, .e undef, .e undef, .e undef, .e undef, .e undef, .e undef, .e (.bool false), .e (.bool false)]) (fun w' => Below wr.heap.size wr w') (Below.drew (Below.refl _ _)) ⟨?s0, ?s1, ?s2, ?s3, ?s4, ?s5, ?s6, ?s7, ?s8, ?s9, ?s10, ?s11, ?s12, ?s13, ?s14, ?s15, ?s16, ?s17, ?s18, ?s19, ?s20, ?s21, ?s22, ?s23, ?s24, ?s25, ?s26, ?s27, ?s28, ?s29, ?s30, ?s31, ?s32, ?s33, ?s34, ?s35, ?s36, ?s37, ?s38, ?s39, ?s40, ?s41, ?s42, ?s43, ?s44, ?s45, ?s46, ?s47, ?s48, ?s49, ?s50, ?s51, ?s52, ?s53, ?s54, ?s55, ?s56, ?s57, ?s58, ?s59, ?s60, ?s61, ?s62, ?s63, ?s64, ?s65, ?s66, ?s67, ?s68, ?s69, ?s70, ?s71, ?s72, ?s73, ?s74, ?s75, ?s76, ?s77, ?s78, ?s79, ?s80, ?s81, ?s82, trivial⟩ ?fin
        case s0 =>
         intro a w' hoff hg hdep K hK
         have h7 := off_at hoff 7 (v := .pointer (some ⟨kp, 0, none⟩)) (by kernel_rfl) rfl
         rw [if_pos (by rfl)]
         go_simp
         exact hK.out _ _ hg rfl (fun _ _ h => h)
        case s1 =>
         intro a w' hoff hg hdep K hK
         obtain ⟨_, e0, rfl⟩ := hdep 0 _ 62 (by kernel_rfl) rfl rfl
         rw [if_pos (by rfl)]
         obtain ⟨p0, p1, p2⟩ := (X7.out.on (Below.step BN.out hg)).cells
         go_simp
         exact hK.out _ _ hg rfl (fun _ _ h => h)
        case s2 =>
         intro a w' hoff hg hdep K hK
         have h7 := off_at hoff 7 (v := .pointer (some ⟨kp, 0, none⟩)) (by kernel_rfl) rfl
         rw [if_pos (by rfl)]
         go_simp
         exact hK.out _ _ hg rfl (fun _ _ h => h)
        case s3 =>
         intro a w' hoff hg hdep K hK
         obtain ⟨_, e2, rfl⟩ := hdep 2 _ 64 (by kernel_rfl) rfl rfl
         rw [if_pos (by rfl)]
         obtain ⟨p0, p1, p2⟩ := (X7.out.on (Below.step BN.out hg)).cells
         go_simp
         exact hK.out _ _ hg rfl (fun _ _ h => h)
        case s4 =>
         intro a w' hoff hg hdep K hK
         obtain ⟨_, e1, rfl⟩ := hdep 1 _ 63 (by kernel_rfl) rfl rfl
         obtain ⟨_, e3, rfl⟩ := hdep 3 _ 65 (by kernel_rfl) rfl rfl
         rw [if_pos (by rfl)]
         go_simp
         exact hK.out _ _ hg rfl (fun _ _ h => h)
        case s5 =>
         intro a w' hoff hg hdep K hK
         obtain ⟨_, e4, rfl⟩ := hdep 4 _ 66 (by kernel_rfl) rfl rfl
         rw [if_pos (by rfl)]
         go_simp
         exact hK.out _ _ hg rfl (fun _ _ h => h)
        case s6 =>
         intro a w' hoff hg hdep K hK
         have h6 := off_at hoff 6 (v := .pointer (some ⟨kr, 0, none⟩)) (by kernel_rfl) rfl
         obtain ⟨_, e5, rfl⟩ := hdep 5 _ 67 (by kernel_rfl) rfl rfl
         rw [if_pos (by simp [Region.wanted, yielded, e5])]
         go_simp
         exact hK.out _ _ hg rfl (fun _ _ h => h)
        case s7 =>
         intro a w' hoff hg hdep K hK
         obtain ⟨_, e6, rfl⟩ := hdep 6 _ 68 (by kernel_rfl) rfl rfl
         obtain ⟨_, e5, rfl⟩ := hdep 5 _ 67 (by kernel_rfl) rfl rfl
         rw [if_pos (by simp [Region.wanted, yielded, e5])]
         obtain ⟨o0, o1, o2, o3, o4, o5⟩ := (X6.out.on (Below.step BN.out hg)).cells
         go_simp
         exact hK.out _ _ hg rfl (fun _ _ h => h)
        case s8 =>
         intro a w' hoff hg hdep K hK
         obtain ⟨_, e7, rfl⟩ := hdep 7 _ 69 (by kernel_rfl) rfl rfl
         obtain ⟨_, e5, rfl⟩ := hdep 5 _ 67 (by kernel_rfl) rfl rfl
         rw [if_pos (by simp [Region.wanted, yielded, e5])]
         go_simp
         exact hK.out _ _ hg rfl (fun _ _ h => h)
        case s9 =>
         intro a w' hoff hg hdep K hK
         obtain ⟨_, e8, rfl⟩ := hdep 8 _ 70 (by kernel_rfl) rfl rfl
         obtain ⟨_, e5, rfl⟩ := hdep 5 _ 67 (by kernel_rfl) rfl rfl
         rw [if_pos (by simp [Region.wanted, yielded, e5])]
         go_simp
         exact hK.out _ _ hg rfl (fun _ _ h => h)
        case s10 =>
         intro a w' hoff hg hdep K hK
         obtain ⟨_, e9, rfl⟩ := hdep 9 _ 71 (by kernel_rfl) rfl rfl
         obtain ⟨_, e5, rfl⟩ := hdep 5 _ 67 (by kernel_rfl) rfl rfl
         rw [if_pos (by simp [Region.wanted, yielded, e5])]
         have m1 := (hg.cell (p := ⟨zb, zo + 1, none⟩) ZB.out).trans Z1.out
         go_simp
         exact hK.out _ _ hg rfl (fun _ _ h => h)
        case s11 =>
         intro a w' hoff hg hdep K hK
         have h7 := off_at hoff 7 (v := .pointer (some ⟨kp, 0, none⟩)) (by kernel_rfl) rfl
         obtain ⟨_, e5, rfl⟩ := hdep 5 _ 67 (by kernel_rfl) rfl rfl
         rw [if_pos (by simp [Region.wanted, yielded, e5])]
         go_simp
         exact hK.out _ _ hg rfl (fun _ _ h => h)
        case s12 =>
         intro a w' hoff hg hdep K hK
         obtain ⟨_, e11, rfl⟩ := hdep 11 _ 73 (by kernel_rfl) rfl rfl
         obtain ⟨_, e5, rfl⟩ := hdep 5 _ 67 (by kernel_rfl) rfl rfl
         rw [if_pos (by simp [Region.wanted, yielded, e5])]
         obtain ⟨p0, p1, p2⟩ := (X7.out.on (Below.step BN.out hg)).cells
         go_simp
         exact hK.out _ _ hg rfl (fun _ _ h => h)
        case s13 =>
         intro a w' hoff hg hdep K hK
         obtain ⟨_, e10, rfl⟩ := hdep 10 _ 72 (by kernel_rfl) rfl rfl
         obtain ⟨_, e12, rfl⟩ := hdep 12 _ 74 (by kernel_rfl) rfl rfl
         obtain ⟨_, e5, rfl⟩ := hdep 5 _ 67 (by kernel_rfl) rfl rfl
         rw [if_pos (by simp [Region.wanted, yielded, e5])]
         go_simp
         exact hK.out _ _ hg rfl (fun _ _ h => h)
        case s14 =>
         intro a w' hoff hg hdep K hK
         obtain ⟨_, e5, rfl⟩ := hdep 5 _ 67 (by kernel_rfl) rfl rfl
         obtain ⟨_, e13, rfl⟩ := hdep 13 _ 75 (by kernel_rfl) rfl rfl
         rw [if_pos (by rfl)]
         go_simp
         exact hK.out _ _ hg rfl (fun _ _ h => h)
        case s15 =>
         intro a w' hoff hg hdep K hK
         obtain ⟨_, e14, rfl⟩ := hdep 14 _ 76 (by kernel_rfl) rfl rfl
         rw [if_pos (by rfl)]
         go_simp
         exact hK.out _ _ hg rfl (fun _ _ h => h)
        case s16 =>
         intro a w' hoff hg hdep K hK
         have h7 := off_at hoff 7 (v := .pointer (some ⟨kp, 0, none⟩)) (by kernel_rfl) rfl
         obtain ⟨_, e15, rfl⟩ := hdep 15 _ 77 (by kernel_rfl) rfl rfl
         rw [if_pos (by simp [Region.wanted, yielded, e15])]
         go_simp
         exact hK.out _ _ hg rfl (fun _ _ h => h)
        case s17 =>
         intro a w' hoff hg hdep K hK
         obtain ⟨_, e16, rfl⟩ := hdep 16 _ 78 (by kernel_rfl) rfl rfl
         obtain ⟨_, e15, rfl⟩ := hdep 15 _ 77 (by kernel_rfl) rfl rfl
         rw [if_pos (by simp [Region.wanted, yielded, e15])]
         obtain ⟨p0, p1, p2⟩ := (X7.out.on (Below.step BN.out hg)).cells
         go_simp
         exact hK.out _ _ hg rfl (fun _ _ h => h)
        case s18 =>
         intro a w' hoff hg hdep K hK
         obtain ⟨_, e17, rfl⟩ := hdep 17 _ 79 (by kernel_rfl) rfl rfl
         obtain ⟨_, e15, rfl⟩ := hdep 15 _ 77 (by kernel_rfl) rfl rfl
         rw [if_pos (by simp [Region.wanted, yielded, e15])]
         go_simp
         exact hK.out _ _ hg rfl (fun _ _ h => h)
        case s19 =>
         intro a w' hoff hg hdep K hK
         obtain ⟨_, e18, rfl⟩ := hdep 18 _ 80 (by kernel_rfl) rfl rfl
         obtain ⟨_, e15, rfl⟩ := hdep 15 _ 77 (by kernel_rfl) rfl rfl
         rw [if_pos (by simp [Region.wanted, yielded, e15])]
         go_simp
         exact hK.out _ _ hg rfl (fun _ _ h => h)
        case s20 =>
         intro a w' hoff hg hdep K hK
         have h6 := off_at hoff 6 (v := .pointer (some ⟨kr, 0, none⟩)) (by kernel_rfl) rfl
         obtain ⟨_, e19, rfl⟩ := hdep 19 _ 81 (by kernel_rfl) rfl rfl
         rw [if_pos (by simp [Region.wanted, yielded, e19])]
         go_simp
         exact hK.out _ _ hg rfl (fun _ _ h => h)
        case s21 =>
         intro a w' hoff hg hdep K hK
         obtain ⟨_, e20, rfl⟩ := hdep 20 _ 82 (by kernel_rfl) rfl rfl
         obtain ⟨_, e19, rfl⟩ := hdep 19 _ 81 (by kernel_rfl) rfl rfl
         rw [if_pos (by simp [Region.wanted, yielded, e19])]
         obtain ⟨o0, o1, o2, o3, o4, o5⟩ := (X6.out.on (Below.step BN.out hg)).cells
         go_simp
         exact hK.out _ _ hg rfl (fun _ _ h => h)
        case s22 =>
         intro a w' hoff hg hdep K hK
         have h7 := off_at hoff 7 (v := .pointer (some ⟨kp, 0, none⟩)) (by kernel_rfl) rfl
         obtain ⟨_, e19, rfl⟩ := hdep 19 _ 81 (by kernel_rfl) rfl rfl
         rw [if_pos (by simp [Region.wanted, yielded, e19])]
         go_simp
         exact hK.out _ _ hg rfl (fun _ _ h => h)
        case s23 =>
         intro a w' hoff hg hdep K hK
         obtain ⟨_, e22, rfl⟩ := hdep 22 _ 84 (by kernel_rfl) rfl rfl
         obtain ⟨_, e19, rfl⟩ := hdep 19 _ 81 (by kernel_rfl) rfl rfl
         rw [if_pos (by simp [Region.wanted, yielded, e19])]
         obtain ⟨p0, p1, p2⟩ := (X7.out.on (Below.step BN.out hg)).cells
         go_simp
         exact hK.out _ _ hg rfl (fun _ _ h => h)
        case s24 =>
         intro a w' hoff hg hdep K hK
         have h7 := off_at hoff 7 (v := .pointer (some ⟨kp, 0, none⟩)) (by kernel_rfl) rfl
         obtain ⟨_, e19, rfl⟩ := hdep 19 _ 81 (by kernel_rfl) rfl rfl
         rw [if_pos (by simp [Region.wanted, yielded, e19])]
         go_simp
         exact hK.out _ _ hg rfl (fun _ _ h => h)
        case s25 =>
         intro a w' hoff hg hdep K hK
         obtain ⟨_, e24, rfl⟩ := hdep 24 _ 86 (by kernel_rfl) rfl rfl
         obtain ⟨_, e19, rfl⟩ := hdep 19 _ 81 (by kernel_rfl) rfl rfl
         rw [if_pos (by simp [Region.wanted, yielded, e19])]
         obtain ⟨p0, p1, p2⟩ := (X7.out.on (Below.step BN.out hg)).cells
         go_simp
         exact hK.out _ _ hg rfl (fun _ _ h => h)
        case s26 =>
         intro a w' hoff hg hdep K hK
         obtain ⟨_, e21, rfl⟩ := hdep 21 _ 83 (by kernel_rfl) rfl rfl
         obtain ⟨_, e23, rfl⟩ := hdep 23 _ 85 (by kernel_rfl) rfl rfl
         obtain ⟨_, e25, rfl⟩ := hdep 25 _ 87 (by kernel_rfl) rfl rfl
         obtain ⟨_, e19, rfl⟩ := hdep 19 _ 81 (by kernel_rfl) rfl rfl
         rw [if_pos (by simp [Region.wanted, yielded, e19])]
         go_simp
         refine (linked7_any r.body p.from' p.to' (fun b => b < k6) w' _ (fun b hb => Nat.lt_of_lt_of_le hb (Nat.le_trans KN.out hg.size)) (RepLis.on (fun _ h => h) (fun b hb => hg.block b (Nat.lt_of_lt_of_le hb KN.out)) GN.out.2.2.2.2.2.2.2.2.2) (by have := HBL.out; omega)).mono ?_
         rintro e w2' ⟨rfl, hb⟩
         rw [HLK.out]
         exact hK.out _ _ (Below.step hg hb) rfl (fSt trivial)
        case s27 =>
         intro a w' hoff hg hdep K hK
         obtain ⟨_, e26, rfl⟩ := hdep 26 _ 88 (by kernel_rfl) rfl rfl
         obtain ⟨_, e19, rfl⟩ := hdep 19 _ 81 (by kernel_rfl) rfl rfl
         rw [if_pos (by simp [Region.wanted, yielded, e19])]
         go_simp
         exact hK.out _ _ hg rfl (fun _ _ h => h)
        case s28 =>
         intro a w' hoff hg hdep K hK
         obtain ⟨_, e27, rfl⟩ := hdep 27 _ 89 (by kernel_rfl) rfl rfl
         obtain ⟨_, e19, rfl⟩ := hdep 19 _ 81 (by kernel_rfl) rfl rfl
         rw [if_pos (by simp [Region.wanted, yielded, e19])]
         go_simp
         exact hK.out _ _ hg rfl (fun _ _ h => h)
        case s29 =>
         intro a w' hoff hg hdep K hK
         have h7 := off_at hoff 7 (v := .pointer (some ⟨kp, 0, none⟩)) (by kernel_rfl) rfl
         obtain ⟨_, e28, rfl⟩ := hdep 28 _ 90 (by kernel_rfl) rfl rfl
         rw [if_pos (by simp [Region.wanted, yielded, e28])]
         go_simp
         exact hK.out _ _ hg rfl (fun _ _ h => h)
        case s30 =>
         intro a w' hoff hg hdep K hK
         obtain ⟨_, e29, rfl⟩ := hdep 29 _ 91 (by kernel_rfl) rfl rfl
         obtain ⟨_, e28, rfl⟩ := hdep 28 _ 90 (by kernel_rfl) rfl rfl
         rw [if_pos (by simp [Region.wanted, yielded, e28])]
         obtain ⟨p0, p1, p2⟩ := (X7.out.on (Below.step BN.out hg)).cells
         go_simp
         exact hK.out _ _ hg rfl (fun _ _ h => h)
        case s31 =>
         intro a w' hoff hg hdep K hK
         have h7 := off_at hoff 7 (v := .pointer (some ⟨kp, 0, none⟩)) (by kernel_rfl) rfl
         obtain ⟨_, e28, rfl⟩ := hdep 28 _ 90 (by kernel_rfl) rfl rfl
         rw [if_pos (by simp [Region.wanted, yielded, e28])]
         go_simp
         exact hK.out _ _ hg rfl (fun _ _ h => h)
        case s32 =>
         intro a w' hoff hg hdep K hK
         obtain ⟨_, e31, rfl⟩ := hdep 31 _ 93 (by kernel_rfl) rfl rfl
         obtain ⟨_, e28, rfl⟩ := hdep 28 _ 90 (by kernel_rfl) rfl rfl
         rw [if_pos (by simp [Region.wanted, yielded, e28])]
         obtain ⟨p0, p1, p2⟩ := (X7.out.on (Below.step BN.out hg)).cells
         go_simp
         exact hK.out _ _ hg rfl (fun _ _ h => h)
        case s33 =>
         intro a w' hoff hg hdep K hK
         obtain ⟨_, e30, rfl⟩ := hdep 30 _ 92 (by kernel_rfl) rfl rfl
         obtain ⟨_, e32, rfl⟩ := hdep 32 _ 94 (by kernel_rfl) rfl rfl
         obtain ⟨_, e28, rfl⟩ := hdep 28 _ 90 (by kernel_rfl) rfl rfl
         rw [if_pos (by simp [Region.wanted, yielded, e28])]
         go_simp
         exact hK.out _ _ hg rfl (fun _ _ h => h)
        case s34 =>
         intro a w' hoff hg hdep K hK
         obtain ⟨_, e33, rfl⟩ := hdep 33 _ 95 (by kernel_rfl) rfl rfl
         obtain ⟨_, e28, rfl⟩ := hdep 28 _ 90 (by kernel_rfl) rfl rfl
         rw [if_pos (by simp [Region.wanted, yielded, e28])]
         go_simp
         exact hK.out _ _ hg rfl (fun _ _ h => h)
        case s35 =>
         intro a w' hoff hg hdep K hK
         have h7 := off_at hoff 7 (v := .pointer (some ⟨kp, 0, none⟩)) (by kernel_rfl) rfl
         obtain ⟨_, e34, rfl⟩ := hdep 34 _ 96 (by kernel_rfl) rfl rfl
         rw [if_neg (by simp [Region.wanted, yielded, e34])]
         exact hK.out _ _ hg rfl (fun _ _ h => h)
        case s36 =>
         intro a w' hoff hg hdep K hK
         obtain ⟨v35, e35, f35⟩ := hdep 35 _ 97 (by kernel_rfl) rfl rfl
         obtain rfl : undef = v35 := Eq.symm f35
         obtain ⟨_, e34, rfl⟩ := hdep 34 _ 96 (by kernel_rfl) rfl rfl
         rw [if_neg (by simp [Region.wanted, yielded, e34])]
         exact hK.out _ _ hg rfl (fun _ _ h => h)
        case s37 =>
         intro a w' hoff hg hdep K hK
         have h7 := off_at hoff 7 (v := .pointer (some ⟨kp, 0, none⟩)) (by kernel_rfl) rfl
         obtain ⟨_, e34, rfl⟩ := hdep 34 _ 96 (by kernel_rfl) rfl rfl
         rw [if_neg (by simp [Region.wanted, yielded, e34])]
         exact hK.out _ _ hg rfl (fun _ _ h => h)
        case s38 =>
         intro a w' hoff hg hdep K hK
         obtain ⟨v37, e37, f37⟩ := hdep 37 _ 99 (by kernel_rfl) rfl rfl
         obtain rfl : undef = v37 := Eq.symm f37
         obtain ⟨_, e34, rfl⟩ := hdep 34 _ 96 (by kernel_rfl) rfl rfl
         rw [if_neg (by simp [Region.wanted, yielded, e34])]
         exact hK.out _ _ hg rfl (fun _ _ h => h)
        case s39 =>
         intro a w' hoff hg hdep K hK
         obtain ⟨v36, e36, f36⟩ := hdep 36 _ 98 (by kernel_rfl) rfl rfl
         obtain rfl : undef = v36 := Eq.symm f36
         obtain ⟨v38, e38, f38⟩ := hdep 38 _ 100 (by kernel_rfl) rfl rfl
         obtain rfl : undef = v38 := Eq.symm f38
         obtain ⟨_, e34, rfl⟩ := hdep 34 _ 96 (by kernel_rfl) rfl rfl
         rw [if_neg (by simp [Region.wanted, yielded, e34])]
         exact hK.out _ _ hg rfl (fun _ _ h => h)
        case s40 =>
         intro a w' hoff hg hdep K hK
         obtain ⟨_, e34, rfl⟩ := hdep 34 _ 96 (by kernel_rfl) rfl rfl
         obtain ⟨v39, e39, f39⟩ := hdep 39 _ 101 (by kernel_rfl) rfl rfl
         obtain rfl : undef = v39 := Eq.symm f39
         obtain ⟨_, e28, rfl⟩ := hdep 28 _ 90 (by kernel_rfl) rfl rfl
         rw [if_pos (by simp [Region.wanted, yielded, e28])]
         go_simp
         exact hK.out _ _ hg rfl (fun _ _ h => h)
        case s41 =>
         intro a w' hoff hg hdep K hK
         obtain ⟨_, e28, rfl⟩ := hdep 28 _ 90 (by kernel_rfl) rfl rfl
         obtain ⟨_, e40, rfl⟩ := hdep 40 _ 102 (by kernel_rfl) rfl rfl
         obtain ⟨_, e19, rfl⟩ := hdep 19 _ 81 (by kernel_rfl) rfl rfl
         rw [if_pos (by simp [Region.wanted, yielded, e19])]
         go_simp
         exact hK.out _ _ hg rfl (fun _ _ h => h)
        case s42 =>
         intro a w' hoff hg hdep K hK
         obtain ⟨_, e19, rfl⟩ := hdep 19 _ 81 (by kernel_rfl) rfl rfl
         obtain ⟨_, e41, rfl⟩ := hdep 41 _ 103 (by kernel_rfl) rfl rfl
         obtain ⟨_, e15, rfl⟩ := hdep 15 _ 77 (by kernel_rfl) rfl rfl
         rw [if_pos (by simp [Region.wanted, yielded, e15])]
         go_simp
         exact hK.out _ _ hg rfl (fun _ _ h => h)
        case s43 =>
         intro a w' hoff hg hdep K hK
         obtain ⟨_, e15, rfl⟩ := hdep 15 _ 77 (by kernel_rfl) rfl rfl
         obtain ⟨_, e42, rfl⟩ := hdep 42 _ 104 (by kernel_rfl) rfl rfl
         rw [if_pos (by rfl)]
         go_simp
         exact hK.out _ _ hg rfl (fun _ _ h => h)
        case s44 =>
         intro a w' hoff hg hdep K hK
         obtain ⟨_, e43, rfl⟩ := hdep 43 _ 105 (by kernel_rfl) rfl rfl
         rw [if_pos (by rfl)]
         go_simp
         exact hK.out _ _ hg rfl (fun _ _ h => h)
        case s45 =>
         intro a w' hoff hg hdep K hK
         have h7 := off_at hoff 7 (v := .pointer (some ⟨kp, 0, none⟩)) (by kernel_rfl) rfl
         obtain ⟨_, e44, rfl⟩ := hdep 44 _ 106 (by kernel_rfl) rfl rfl
         rw [if_pos (by simp [Region.wanted, yielded, e44])]
         go_simp
         exact hK.out _ _ hg rfl (fun _ _ h => h)
        case s46 =>
         intro a w' hoff hg hdep K hK
         obtain ⟨_, e45, rfl⟩ := hdep 45 _ 107 (by kernel_rfl) rfl rfl
         obtain ⟨_, e44, rfl⟩ := hdep 44 _ 106 (by kernel_rfl) rfl rfl
         rw [if_pos (by simp [Region.wanted, yielded, e44])]
         obtain ⟨p0, p1, p2⟩ := (X7.out.on (Below.step BN.out hg)).cells
         go_simp
         exact hK.out _ _ hg rfl (fun _ _ h => h)
        case s47 =>
         intro a w' hoff hg hdep K hK
         obtain ⟨_, e46, rfl⟩ := hdep 46 _ 108 (by kernel_rfl) rfl rfl
         obtain ⟨_, e44, rfl⟩ := hdep 44 _ 106 (by kernel_rfl) rfl rfl
         rw [if_pos (by simp [Region.wanted, yielded, e44])]
         go_simp
         exact hK.out _ _ hg rfl (fun _ _ h => h)
        case s48 =>
         intro a w' hoff hg hdep K hK
         obtain ⟨_, e47, rfl⟩ := hdep 47 _ 109 (by kernel_rfl) rfl rfl
         obtain ⟨_, e44, rfl⟩ := hdep 44 _ 106 (by kernel_rfl) rfl rfl
         rw [if_pos (by simp [Region.wanted, yielded, e44])]
         go_simp
         exact hK.out _ _ hg rfl (fun _ _ h => h)
        case s49 =>
         intro a w' hoff hg hdep K hK
         have h7 := off_at hoff 7 (v := .pointer (some ⟨kp, 0, none⟩)) (by kernel_rfl) rfl
         obtain ⟨_, e48, rfl⟩ := hdep 48 _ 110 (by kernel_rfl) rfl rfl
         rw [if_neg (by simp [Region.wanted, yielded, e48])]
         exact hK.out _ _ hg rfl (fun _ _ h => h)
        case s50 =>
         intro a w' hoff hg hdep K hK
         obtain ⟨v49, e49, f49⟩ := hdep 49 _ 111 (by kernel_rfl) rfl rfl
         obtain rfl : undef = v49 := Eq.symm f49
         obtain ⟨_, e48, rfl⟩ := hdep 48 _ 110 (by kernel_rfl) rfl rfl
         rw [if_neg (by simp [Region.wanted, yielded, e48])]
         exact hK.out _ _ hg rfl (fun _ _ h => h)
        case s51 =>
         intro a w' hoff hg hdep K hK
         have h7 := off_at hoff 7 (v := .pointer (some ⟨kp, 0, none⟩)) (by kernel_rfl) rfl
         obtain ⟨_, e48, rfl⟩ := hdep 48 _ 110 (by kernel_rfl) rfl rfl
         rw [if_neg (by simp [Region.wanted, yielded, e48])]
         exact hK.out _ _ hg rfl (fun _ _ h => h)
        case s52 =>
         intro a w' hoff hg hdep K hK
         obtain ⟨v51, e51, f51⟩ := hdep 51 _ 113 (by kernel_rfl) rfl rfl
         obtain rfl : undef = v51 := Eq.symm f51
         obtain ⟨_, e48, rfl⟩ := hdep 48 _ 110 (by kernel_rfl) rfl rfl
         rw [if_neg (by simp [Region.wanted, yielded, e48])]
         exact hK.out _ _ hg rfl (fun _ _ h => h)
        case s53 =>
         intro a w' hoff hg hdep K hK
         obtain ⟨v50, e50, f50⟩ := hdep 50 _ 112 (by kernel_rfl) rfl rfl
         obtain rfl : undef = v50 := Eq.symm f50
         obtain ⟨v52, e52, f52⟩ := hdep 52 _ 114 (by kernel_rfl) rfl rfl
         obtain rfl : undef = v52 := Eq.symm f52
         obtain ⟨_, e48, rfl⟩ := hdep 48 _ 110 (by kernel_rfl) rfl rfl
         rw [if_neg (by simp [Region.wanted, yielded, e48])]
         exact hK.out _ _ hg rfl (fun _ _ h => h)
        case s54 =>
         intro a w' hoff hg hdep K hK
         obtain ⟨_, e48, rfl⟩ := hdep 48 _ 110 (by kernel_rfl) rfl rfl
         obtain ⟨v53, e53, f53⟩ := hdep 53 _ 115 (by kernel_rfl) rfl rfl
         obtain rfl : undef = v53 := Eq.symm f53
         obtain ⟨_, e44, rfl⟩ := hdep 44 _ 106 (by kernel_rfl) rfl rfl
         rw [if_pos (by simp [Region.wanted, yielded, e44])]
         go_simp
         exact hK.out _ _ hg rfl (fun _ _ h => h)
        case s55 =>
         intro a w' hoff hg hdep K hK
         obtain ⟨_, e54, rfl⟩ := hdep 54 _ 116 (by kernel_rfl) rfl rfl
         obtain ⟨_, e44, rfl⟩ := hdep 44 _ 106 (by kernel_rfl) rfl rfl
         rw [if_pos (by simp [Region.wanted, yielded, e44])]
         go_simp
         exact hK.out _ _ hg rfl (fun _ _ h => h)
        case s56 =>
         intro a w' hoff hg hdep K hK
         have h6 := off_at hoff 6 (v := .pointer (some ⟨kr, 0, none⟩)) (by kernel_rfl) rfl
         obtain ⟨_, e55, rfl⟩ := hdep 55 _ 117 (by kernel_rfl) rfl rfl
         rw [if_neg (by simp [Region.wanted, yielded, e55])]
         exact hK.out _ _ hg rfl (fun _ _ h => h)
        case s57 =>
         intro a w' hoff hg hdep K hK
         obtain ⟨v56, e56, f56⟩ := hdep 56 _ 118 (by kernel_rfl) rfl rfl
         obtain rfl : undef = v56 := Eq.symm f56
         obtain ⟨_, e55, rfl⟩ := hdep 55 _ 117 (by kernel_rfl) rfl rfl
         rw [if_neg (by simp [Region.wanted, yielded, e55])]
         exact hK.out _ _ hg rfl (fun _ _ h => h)
        case s58 =>
         intro a w' hoff hg hdep K hK
         have h7 := off_at hoff 7 (v := .pointer (some ⟨kp, 0, none⟩)) (by kernel_rfl) rfl
         obtain ⟨_, e55, rfl⟩ := hdep 55 _ 117 (by kernel_rfl) rfl rfl
         rw [if_neg (by simp [Region.wanted, yielded, e55])]
         exact hK.out _ _ hg rfl (fun _ _ h => h)
        case s59 =>
         intro a w' hoff hg hdep K hK
         obtain ⟨v58, e58, f58⟩ := hdep 58 _ 120 (by kernel_rfl) rfl rfl
         obtain rfl : undef = v58 := Eq.symm f58
         obtain ⟨_, e55, rfl⟩ := hdep 55 _ 117 (by kernel_rfl) rfl rfl
         rw [if_neg (by simp [Region.wanted, yielded, e55])]
         exact hK.out _ _ hg rfl (fun _ _ h => h)
        case s60 =>
         intro a w' hoff hg hdep K hK
         have h7 := off_at hoff 7 (v := .pointer (some ⟨kp, 0, none⟩)) (by kernel_rfl) rfl
         obtain ⟨_, e55, rfl⟩ := hdep 55 _ 117 (by kernel_rfl) rfl rfl
         rw [if_neg (by simp [Region.wanted, yielded, e55])]
         exact hK.out _ _ hg rfl (fun _ _ h => h)
        case s61 =>
         intro a w' hoff hg hdep K hK
         obtain ⟨v60, e60, f60⟩ := hdep 60 _ 122 (by kernel_rfl) rfl rfl
         obtain rfl : undef = v60 := Eq.symm f60
         obtain ⟨_, e55, rfl⟩ := hdep 55 _ 117 (by kernel_rfl) rfl rfl
         rw [if_neg (by simp [Region.wanted, yielded, e55])]
         exact hK.out _ _ hg rfl (fun _ _ h => h)
        case s62 =>
         intro a w' hoff hg hdep K hK
         obtain ⟨v57, e57, f57⟩ := hdep 57 _ 119 (by kernel_rfl) rfl rfl
         obtain rfl : undef = v57 := Eq.symm f57
         obtain ⟨v59, e59, f59⟩ := hdep 59 _ 121 (by kernel_rfl) rfl rfl
         obtain rfl : undef = v59 := Eq.symm f59
         obtain ⟨v61, e61, f61⟩ := hdep 61 _ 123 (by kernel_rfl) rfl rfl
         obtain rfl : undef = v61 := Eq.symm f61
         obtain ⟨_, e55, rfl⟩ := hdep 55 _ 117 (by kernel_rfl) rfl rfl
         rw [if_neg (by simp [Region.wanted, yielded, e55])]
         exact hK.out _ _ hg rfl (fun _ _ h => h)
        case s63 =>
         intro a w' hoff hg hdep K hK
         obtain ⟨v62, e62, f62⟩ := hdep 62 _ 124 (by kernel_rfl) rfl rfl
         obtain rfl : undef = v62 := Eq.symm f62
         obtain ⟨_, e55, rfl⟩ := hdep 55 _ 117 (by kernel_rfl) rfl rfl
         rw [if_neg (by simp [Region.wanted, yielded, e55])]
         exact hK.out _ _ hg rfl (fun _ _ h => h)
        case s64 =>
         intro a w' hoff hg hdep K hK
         obtain ⟨_, e55, rfl⟩ := hdep 55 _ 117 (by kernel_rfl) rfl rfl
         obtain ⟨v63, e63, f63⟩ := hdep 63 _ 125 (by kernel_rfl) rfl rfl
         obtain rfl : undef = v63 := Eq.symm f63
         obtain ⟨_, e44, rfl⟩ := hdep 44 _ 106 (by kernel_rfl) rfl rfl
         rw [if_pos (by simp [Region.wanted, yielded, e44])]
         go_simp
         exact hK.out _ _ hg rfl (fun _ _ h => h)
        case s65 =>
         intro a w' hoff hg hdep K hK
         obtain ⟨_, e44, rfl⟩ := hdep 44 _ 106 (by kernel_rfl) rfl rfl
         obtain ⟨_, e64, rfl⟩ := hdep 64 _ 126 (by kernel_rfl) rfl rfl
         rw [if_pos (by rfl)]
         go_simp
         exact hK.out _ _ hg rfl (fun _ _ h => h)
        case s66 =>
         intro a w' hoff hg hdep K hK
         obtain ⟨_, e65, rfl⟩ := hdep 65 _ 127 (by kernel_rfl) rfl rfl
         rw [if_pos (by rfl)]
         go_simp
         exact hK.out _ _ hg rfl (fun _ _ h => h)
        case s67 =>
         intro a w' hoff hg hdep K hK
         have h6 := off_at hoff 6 (v := .pointer (some ⟨kr, 0, none⟩)) (by kernel_rfl) rfl
         obtain ⟨_, e66, rfl⟩ := hdep 66 _ 128 (by kernel_rfl) rfl rfl
         rw [if_pos (by simp [Region.wanted, yielded, e66])]
         go_simp
         exact hK.out _ _ hg rfl (fun _ _ h => h)
        case s68 =>
         intro a w' hoff hg hdep K hK
         obtain ⟨_, e67, rfl⟩ := hdep 67 _ 129 (by kernel_rfl) rfl rfl
         obtain ⟨_, e66, rfl⟩ := hdep 66 _ 128 (by kernel_rfl) rfl rfl
         rw [if_pos (by simp [Region.wanted, yielded, e66])]
         obtain ⟨o0, o1, o2, o3, o4, o5⟩ := (X6.out.on (Below.step BN.out hg)).cells
         go_simp
         exact hK.out _ _ hg rfl (fun _ _ h => h)
        case s69 =>
         intro a w' hoff hg hdep K hK
         obtain ⟨_, e68, rfl⟩ := hdep 68 _ 130 (by kernel_rfl) rfl rfl
         obtain ⟨_, e66, rfl⟩ := hdep 66 _ 128 (by kernel_rfl) rfl rfl
         rw [if_pos (by simp [Region.wanted, yielded, e66])]
         go_simp
         exact hK.out _ _ hg rfl (fun _ _ h => h)
        case s70 =>
         intro a w' hoff hg hdep K hK
         obtain ⟨_, e69, rfl⟩ := hdep 69 _ 131 (by kernel_rfl) rfl rfl
         obtain ⟨_, e66, rfl⟩ := hdep 66 _ 128 (by kernel_rfl) rfl rfl
         rw [if_pos (by simp [Region.wanted, yielded, e66])]
         go_simp
         exact hK.out _ _ hg rfl (fun _ _ h => h)
        case s71 =>
         intro a w' hoff hg hdep K hK
         have h7 := off_at hoff 7 (v := .pointer (some ⟨kp, 0, none⟩)) (by kernel_rfl) rfl
         obtain ⟨_, e70, rfl⟩ := hdep 70 _ 132 (by kernel_rfl) rfl rfl
         rw [if_neg (by simp [Region.wanted, yielded, e70])]
         exact hK.out _ _ hg rfl (fun _ _ h => h)
        case s72 =>
         intro a w' hoff hg hdep K hK
         obtain ⟨v71, e71, f71⟩ := hdep 71 _ 133 (by kernel_rfl) rfl rfl
         obtain rfl : undef = v71 := Eq.symm f71
         obtain ⟨_, e70, rfl⟩ := hdep 70 _ 132 (by kernel_rfl) rfl rfl
         rw [if_neg (by simp [Region.wanted, yielded, e70])]
         exact hK.out _ _ hg rfl (fun _ _ h => h)
        case s73 =>
         intro a w' hoff hg hdep K hK
         obtain ⟨v72, e72, f72⟩ := hdep 72 _ 134 (by kernel_rfl) rfl rfl
         obtain rfl : undef = v72 := Eq.symm f72
         obtain ⟨_, e70, rfl⟩ := hdep 70 _ 132 (by kernel_rfl) rfl rfl
         rw [if_neg (by simp [Region.wanted, yielded, e70])]
         exact hK.out _ _ hg rfl (fun _ _ h => h)
        case s74 =>
         intro a w' hoff hg hdep K hK
         obtain ⟨v73, e73, f73⟩ := hdep 73 _ 135 (by kernel_rfl) rfl rfl
         obtain rfl : undef = v73 := Eq.symm f73
         obtain ⟨_, e70, rfl⟩ := hdep 70 _ 132 (by kernel_rfl) rfl rfl
         rw [if_neg (by simp [Region.wanted, yielded, e70])]
         exact hK.out _ _ hg rfl (fun _ _ h => h)
        case s75 =>
         intro a w' hoff hg hdep K hK
         have h7 := off_at hoff 7 (v := .pointer (some ⟨kp, 0, none⟩)) (by kernel_rfl) rfl
         obtain ⟨v74, e74, f74⟩ := hdep 74 _ 136 (by kernel_rfl) rfl rfl
         obtain rfl : undef = v74 := Eq.symm f74
         rw [if_neg (by simp [Region.wanted, yielded, e74, undef])]
         exact hK.out _ _ hg rfl (fun _ _ h => h)
        case s76 =>
         intro a w' hoff hg hdep K hK
         obtain ⟨v75, e75, f75⟩ := hdep 75 _ 137 (by kernel_rfl) rfl rfl
         obtain rfl : undef = v75 := Eq.symm f75
         obtain ⟨v74, e74, f74⟩ := hdep 74 _ 136 (by kernel_rfl) rfl rfl
         obtain rfl : undef = v74 := Eq.symm f74
         rw [if_neg (by simp [Region.wanted, yielded, e74, undef])]
         exact hK.out _ _ hg rfl (fun _ _ h => h)
        case s77 =>
         intro a w' hoff hg hdep K hK
         have h7 := off_at hoff 7 (v := .pointer (some ⟨kp, 0, none⟩)) (by kernel_rfl) rfl
         obtain ⟨v74, e74, f74⟩ := hdep 74 _ 136 (by kernel_rfl) rfl rfl
         obtain rfl : undef = v74 := Eq.symm f74
         rw [if_neg (by simp [Region.wanted, yielded, e74, undef])]
         exact hK.out _ _ hg rfl (fun _ _ h => h)
        case s78 =>
         intro a w' hoff hg hdep K hK
         obtain ⟨v77, e77, f77⟩ := hdep 77 _ 139 (by kernel_rfl) rfl rfl
         obtain rfl : undef = v77 := Eq.symm f77
         obtain ⟨v74, e74, f74⟩ := hdep 74 _ 136 (by kernel_rfl) rfl rfl
         obtain rfl : undef = v74 := Eq.symm f74
         rw [if_neg (by simp [Region.wanted, yielded, e74, undef])]
         exact hK.out _ _ hg rfl (fun _ _ h => h)
        case s79 =>
         intro a w' hoff hg hdep K hK
         obtain ⟨v76, e76, f76⟩ := hdep 76 _ 138 (by kernel_rfl) rfl rfl
         obtain rfl : undef = v76 := Eq.symm f76
         obtain ⟨v78, e78, f78⟩ := hdep 78 _ 140 (by kernel_rfl) rfl rfl
         obtain rfl : undef = v78 := Eq.symm f78
         obtain ⟨v74, e74, f74⟩ := hdep 74 _ 136 (by kernel_rfl) rfl rfl
         obtain rfl : undef = v74 := Eq.symm f74
         rw [if_neg (by simp [Region.wanted, yielded, e74, undef])]
         exact hK.out _ _ hg rfl (fun _ _ h => h)
        case s80 =>
         intro a w' hoff hg hdep K hK
         obtain ⟨v74, e74, f74⟩ := hdep 74 _ 136 (by kernel_rfl) rfl rfl
         obtain rfl : undef = v74 := Eq.symm f74
         obtain ⟨v79, e79, f79⟩ := hdep 79 _ 141 (by kernel_rfl) rfl rfl
         obtain rfl : undef = v79 := Eq.symm f79
         obtain ⟨_, e70, rfl⟩ := hdep 70 _ 132 (by kernel_rfl) rfl rfl
         rw [if_neg (by simp [Region.wanted, yielded, e70])]
         exact hK.out _ _ hg rfl (fun _ _ h => h)
        case s81 =>
         intro a w' hoff hg hdep K hK
         obtain ⟨_, e70, rfl⟩ := hdep 70 _ 132 (by kernel_rfl) rfl rfl
         obtain ⟨v80, e80, f80⟩ := hdep 80 _ 142 (by kernel_rfl) rfl rfl
         obtain rfl : undef = v80 := Eq.symm f80
         obtain ⟨_, e66, rfl⟩ := hdep 66 _ 128 (by kernel_rfl) rfl rfl
         rw [if_pos (by simp [Region.wanted, yielded, e66])]
         go_simp
         exact hK.out _ _ hg rfl (fun _ _ h => h)
        case s82 =>
         intro a w' hoff hg hdep K hK
         obtain ⟨_, e66, rfl⟩ := hdep 66 _ 128 (by kernel_rfl) rfl rfl
         obtain ⟨_, e81, rfl⟩ := hdep 81 _ 143 (by kernel_rfl) rfl rfl
         rw [if_pos (by rfl)]
         go_simp
         exact hK.out _ _ hg rfl (fun _ _ h => h)
        case fin =>
         intro a w' hoff hg hf
         obtain ⟨_, e0, rfl⟩ := hf 0 _ 62 rfl rfl
         obtain ⟨_, e1, rfl⟩ := hf 1 _ 63 rfl rfl
         obtain ⟨_, e2, rfl⟩ := hf 2 _ 64 rfl rfl
         obtain ⟨_, e3, rfl⟩ := hf 3 _ 65 rfl rfl
         obtain ⟨_, e4, rfl⟩ := hf 4 _ 66 rfl rfl
         obtain ⟨_, e5, rfl⟩ := hf 5 _ 67 rfl rfl
         obtain ⟨_, e6, rfl⟩ := hf 6 _ 68 rfl rfl
         obtain ⟨_, e7, rfl⟩ := hf 7 _ 69 rfl rfl
         obtain ⟨_, e8, rfl⟩ := hf 8 _ 70 rfl rfl
         obtain ⟨_, e9, rfl⟩ := hf 9 _ 71 rfl rfl
         obtain ⟨_, e10, rfl⟩ := hf 10 _ 72 rfl rfl
         obtain ⟨_, e11, rfl⟩ := hf 11 _ 73 rfl rfl
         obtain ⟨_, e12, rfl⟩ := hf 12 _ 74 rfl rfl
         obtain ⟨_, e13, rfl⟩ := hf 13 _ 75 rfl rfl
         obtain ⟨_, e14, rfl⟩ := hf 14 _ 76 rfl rfl
         obtain ⟨_, e15, rfl⟩ := hf 15 _ 77 rfl rfl
         obtain ⟨_, e16, rfl⟩ := hf 16 _ 78 rfl rfl
         obtain ⟨_, e17, rfl⟩ := hf 17 _ 79 rfl rfl
         obtain ⟨_, e18, rfl⟩ := hf 18 _ 80 rfl rfl
         obtain ⟨_, e19, rfl⟩ := hf 19 _ 81 rfl rfl
         obtain ⟨_, e20, rfl⟩ := hf 20 _ 82 rfl rfl
         obtain ⟨_, e21, rfl⟩ := hf 21 _ 83 rfl rfl
         obtain ⟨_, e22, rfl⟩ := hf 22 _ 84 rfl rfl
         obtain ⟨_, e23, rfl⟩ := hf 23 _ 85 rfl rfl
         obtain ⟨_, e24, rfl⟩ := hf 24 _ 86 rfl rfl
         obtain ⟨_, e25, rfl⟩ := hf 25 _ 87 rfl rfl
         obtain ⟨_, e26, rfl⟩ := hf 26 _ 88 rfl rfl
         obtain ⟨_, e27, rfl⟩ := hf 27 _ 89 rfl rfl
         obtain ⟨_, e28, rfl⟩ := hf 28 _ 90 rfl rfl
         obtain ⟨_, e29, rfl⟩ := hf 29 _ 91 rfl rfl
         obtain ⟨_, e30, rfl⟩ := hf 30 _ 92 rfl rfl
         obtain ⟨_, e31, rfl⟩ := hf 31 _ 93 rfl rfl
         obtain ⟨_, e32, rfl⟩ := hf 32 _ 94 rfl rfl
         obtain ⟨_, e33, rfl⟩ := hf 33 _ 95 rfl rfl
         obtain ⟨_, e34, rfl⟩ := hf 34 _ 96 rfl rfl
         obtain ⟨v35, e35, f35⟩ := hf 35 _ 97 rfl rfl
         obtain rfl : undef = v35 := Eq.symm f35
         obtain ⟨v36, e36, f36⟩ := hf 36 _ 98 rfl rfl
         obtain rfl : undef = v36 := Eq.symm f36
         obtain ⟨v37, e37, f37⟩ := hf 37 _ 99 rfl rfl
         obtain rfl : undef = v37 := Eq.symm f37
         obtain ⟨v38, e38, f38⟩ := hf 38 _ 100 rfl rfl
         obtain rfl : undef = v38 := Eq.symm f38
         obtain ⟨v39, e39, f39⟩ := hf 39 _ 101 rfl rfl
         obtain rfl : undef = v39 := Eq.symm f39
         obtain ⟨_, e40, rfl⟩ := hf 40 _ 102 rfl rfl
         obtain ⟨_, e41, rfl⟩ := hf 41 _ 103 rfl rfl
         obtain ⟨_, e42, rfl⟩ := hf 42 _ 104 rfl rfl
         obtain ⟨_, e43, rfl⟩ := hf 43 _ 105 rfl rfl
         obtain ⟨_, e44, rfl⟩ := hf 44 _ 106 rfl rfl
         obtain ⟨_, e45, rfl⟩ := hf 45 _ 107 rfl rfl
         obtain ⟨_, e46, rfl⟩ := hf 46 _ 108 rfl rfl
         obtain ⟨_, e47, rfl⟩ := hf 47 _ 109 rfl rfl
         obtain ⟨_, e48, rfl⟩ := hf 48 _ 110 rfl rfl
         obtain ⟨v49, e49, f49⟩ := hf 49 _ 111 rfl rfl
         obtain rfl : undef = v49 := Eq.symm f49
         obtain ⟨v50, e50, f50⟩ := hf 50 _ 112 rfl rfl
         obtain rfl : undef = v50 := Eq.symm f50
         obtain ⟨v51, e51, f51⟩ := hf 51 _ 113 rfl rfl
         obtain rfl : undef = v51 := Eq.symm f51
         obtain ⟨v52, e52, f52⟩ := hf 52 _ 114 rfl rfl
         obtain rfl : undef = v52 := Eq.symm f52
         obtain ⟨v53, e53, f53⟩ := hf 53 _ 115 rfl rfl
         obtain rfl : undef = v53 := Eq.symm f53
         obtain ⟨_, e54, rfl⟩ := hf 54 _ 116 rfl rfl
         obtain ⟨_, e55, rfl⟩ := hf 55 _ 117 rfl rfl
         obtain ⟨v56, e56, f56⟩ := hf 56 _ 118 rfl rfl
         obtain rfl : undef = v56 := Eq.symm f56
         obtain ⟨v57, e57, f57⟩ := hf 57 _ 119 rfl rfl
         obtain rfl : undef = v57 := Eq.symm f57
         obtain ⟨v58, e58, f58⟩ := hf 58 _ 120 rfl rfl
         obtain rfl : undef = v58 := Eq.symm f58
         obtain ⟨v59, e59, f59⟩ := hf 59 _ 121 rfl rfl
         obtain rfl : undef = v59 := Eq.symm f59
         obtain ⟨v60, e60, f60⟩ := hf 60 _ 122 rfl rfl
         obtain rfl : undef = v60 := Eq.symm f60
         obtain ⟨v61, e61, f61⟩ := hf 61 _ 123 rfl rfl
         obtain rfl : undef = v61 := Eq.symm f61
         obtain ⟨v62, e62, f62⟩ := hf 62 _ 124 rfl rfl
         obtain rfl : undef = v62 := Eq.symm f62
         obtain ⟨v63, e63, f63⟩ := hf 63 _ 125 rfl rfl
         obtain rfl : undef = v63 := Eq.symm f63
         obtain ⟨_, e64, rfl⟩ := hf 64 _ 126 rfl rfl
         obtain ⟨_, e65, rfl⟩ := hf 65 _ 127 rfl rfl
         obtain ⟨_, e66, rfl⟩ := hf 66 _ 128 rfl rfl
         obtain ⟨_, e67, rfl⟩ := hf 67 _ 129 rfl rfl
         obtain ⟨_, e68, rfl⟩ := hf 68 _ 130 rfl rfl
         obtain ⟨_, e69, rfl⟩ := hf 69 _ 131 rfl rfl
         obtain ⟨_, e70, rfl⟩ := hf 70 _ 132 rfl rfl
         obtain ⟨v71, e71, f71⟩ := hf 71 _ 133 rfl rfl
         obtain rfl : undef = v71 := Eq.symm f71
         obtain ⟨v72, e72, f72⟩ := hf 72 _ 134 rfl rfl
         obtain rfl : undef = v72 := Eq.symm f72
         obtain ⟨v73, e73, f73⟩ := hf 73 _ 135 rfl rfl
         obtain rfl : undef = v73 := Eq.symm f73
         obtain ⟨v74, e74, f74⟩ := hf 74 _ 136 rfl rfl
         obtain rfl : undef = v74 := Eq.symm f74
         obtain ⟨v75, e75, f75⟩ := hf 75 _ 137 rfl rfl
         obtain rfl : undef = v75 := Eq.symm f75
         obtain ⟨v76, e76, f76⟩ := hf 76 _ 138 rfl rfl
         obtain rfl : undef = v76 := Eq.symm f76
         obtain ⟨v77, e77, f77⟩ := hf 77 _ 139 rfl rfl
         obtain rfl : undef = v77 := Eq.symm f77
         obtain ⟨v78, e78, f78⟩ := hf 78 _ 140 rfl rfl
         obtain rfl : undef = v78 := Eq.symm f78
         obtain ⟨v79, e79, f79⟩ := hf 79 _ 141 rfl rfl
         obtain rfl : undef = v79 := Eq.symm f79
         obtain ⟨v80, e80, f80⟩ := hf 80 _ 142 rfl rfl
         obtain rfl : undef = v80 := Eq.symm f80
         obtain ⟨_, e81, rfl⟩ := hf 81 _ 143 rfl rfl
         obtain ⟨_, e82, rfl⟩ := hf 82 _ 144 rfl rfl
         rw [hoff.sets [(62, .pointer (some ⟨kp, 0, none⟩)), (63, .string p.from'), (64, .pointer (some ⟨kp, 1, none⟩)), (65, .string p.to'), (66, .bool false), (67, .bool false), (68, .pointer (some ⟨kr, 2, none⟩)), (69, .slice (some ⟨zb, zo, none⟩) r.args.length xc), (70, .pointer (some ⟨zb, zo, none⟩)), (71, .pointer (some ⟨zb, zo + 1, none⟩)), (72, .string p.head), (73, .pointer (some ⟨kp, 2, none⟩)), (74, .string p.head), (75, .bool false), (76, .bool false), (77, .bool false), (78, .pointer (some ⟨kp, 1, none⟩)), (79, .string p.to'), (80, .bool true), (81, .bool true), (82, .pointer (some ⟨kr, 5, none⟩)), (83, .slice ya r.body.length yc), (84, .pointer (some ⟨kp, 0, none⟩)), (85, .string p.from'), (86, .pointer (some ⟨kp, 1, none⟩)), (87, .string p.to'), (88, .bool true), (89, .bool false), (90, .bool false), (91, .pointer (some ⟨kp, 2, none⟩)), (92, .string p.head), (93, .pointer (some ⟨kp, 0, none⟩)), (94, .string p.from'), (95, .bool false), (96, .bool false), (97, undef), (98, undef), (99, undef), (100, undef), (101, undef), (102, .bool false), (103, .bool false), (104, .bool false), (105, .bool false), (106, .bool false), (107, .pointer (some ⟨kp, 1, none⟩)), (108, .string p.to'), (109, .bool false), (110, .bool false), (111, undef), (112, undef), (113, undef), (114, undef), (115, undef), (116, .bool false), (117, .bool false), (118, undef), (119, undef), (120, undef), (121, undef), (122, undef), (123, undef), (124, undef), (125, undef), (126, .bool false), (127, .bool false), (128, .bool false), (129, .pointer (some ⟨kr, 3, none⟩)), (130, .string r.agg), (131, .bool false), (132, .bool false), (133, undef), (134, undef), (135, undef), (136, undef), (137, undef), (138, undef), (139, undef), (140, undef), (141, undef), (142, undef), (143, .bool false), (144, .bool false)] (by kernel_rfl) (by intro p hp; simp only [List.mem_cons, List.not_mem_nil, or_false] at hp; rcases hp with rfl | rfl | rfl | rfl | rfl | rfl | rfl | rfl | rfl | rfl | rfl | rfl | rfl | rfl | rfl | rfl | rfl | rfl | rfl | rfl | rfl | rfl | rfl | rfl | rfl | rfl | rfl | rfl | rfl | rfl | rfl | rfl | rfl | rfl | rfl | rfl | rfl | rfl | rfl | rfl | rfl | rfl | rfl | rfl | rfl | rfl | rfl | rfl | rfl | rfl | rfl | rfl | rfl | rfl | rfl | rfl | rfl | rfl | rfl | rfl | rfl | rfl | rfl | rfl | rfl | rfl | rfl | rfl | rfl | rfl | rfl | rfl | rfl | rfl | rfl | rfl | rfl | rfl | rfl | rfl | rfl | rfl | rfl <;> assumption)]
         clear hoff hf e0 e1 e2 e3 e4 e5 e6 e7 e8 e9 e10 e11 e12 e13 e14 e15 e16 e17 e18 e19 e20 e21 e22 e23 e24 e25 e26 e27 e28 e29 e30 e31 e32 e33 e34 e35 e36 e37 e38 e39 e40 e41 e42 e43 e44 e45 e46 e47 e48 e49 e50 e51 e52 e53 e54 e55 e56 e57 e58 e59 e60 e61 e62 e63 e64 e65 e66 e67 e68 e69 e70 e71 e72 e73 e74 e75 e76 e77 e78 e79 e80 e81 e82
         simp only [List.foldl_cons, List.foldl_nil, List.setIfInBounds_toArray, List.set_cons_zero, List.set_cons_succ]
         have BZ := Lib.hid (Below.step BN.out hg)
         clear hg
         go_wp2_with fail
         go_roundw
         case rel => exact ⟨k + 1, HKL.out, by have := HKL.out; have := HLN.out; rw [show wrap64 ((k : Int) + 1) = ((k + 1 : Nat) : Int) by unfold wrap64; omega], Below.step hbel.out (Below.step B7.out BZ.out)⟩
         case measure => have := HKL.out; have := HLN.out; rw [show wrap64 ((k : Int) + 1) = ((k + 1 : Nat) : Int) by unfold wrap64; omega]; simp only [intOf]; omega
       ·have hd : (p.head.toList == p.from'.toList) = false := by
         rw [Bool.eq_false_iff]; intro e; rw [beq_iff_eq, Lib.toList_data, Lib.toList_data] at e; exact hdd (ByteArray.ext (Array.toList_inj.1 e))
        have hht : (p.head.toList == p.to'.toList) = true := by rw [hh.resolve_left hdd]; exact beq_self_eq_true _
        clear hh hdd
        refine wp_region_factsG (by rfl) 146 (by rfl) (by kernel_rfl) (FA [.e (.pointer (some ⟨kp, 0, none⟩)), .e (.string p.from'), .e (.pointer (some ⟨kp, 1, none⟩)), .e (.string p.to'), .e (.bool false), .e (.bool false), .e (.pointer (some ⟨kr, 2, none⟩)), .e (.slice (some ⟨zb, zo, none⟩) r.args.length xc), .e (.pointer (some ⟨zb, zo, none⟩)), .e (.pointer (some ⟨zb, zo + 1, none⟩)), .e (.string p.head), .e (.pointer (some ⟨kp, 2, none⟩)), .e (.string p.head), .e (.bool false), .e (.bool false), .e (.bool false), .e (.pointer (some ⟨kp, 1, none⟩)), .e (.string p.to'), .e (.bool true), .e (.bool true), .e (.pointer (some ⟨kr, 5, none⟩)), .e (.slice ya r.body.length yc), .e (.pointer (some ⟨kp, 0, none⟩)), .e (.string p.from'), .e (.pointer (some ⟨kp, 1, none⟩)), .e (.string p.to'), .e (.bool true), .e (.bool false), .e (.bool false), .e (.pointer (some ⟨kp, 2, none⟩)), .e (.string p.head), .e (.pointer (some ⟨kp, 0, none⟩)), .e (.string p.from'), .e (.bool true), .e (.bool true), .e (.pointer (some ⟨kp, 2, none⟩)), .e (.string p.head), .e (.pointer (some ⟨kp, 1, none⟩)), .e (.string p.to'), .e (.bool false), .e (.bool false), .e (.bool false), .e (.bool false), .e (.bool false), .e (.bool false), .e (.pointer (some ⟨kp, 1, none⟩)), .e (.string p.to'), .e (.bool false), .e (.bool false), .e undef, .e undef, .e undef, .e undef, .e undef, .e (.bool false), .e (.bool false), .e undef, .e undef, .e undef, .e undef, .e undef, .e undef, .e undef, .e undef, .e (.bool false), .e (.bool false), .e (.bool false), .e (.pointer (some ⟨kr, 3, none⟩)), .e (.string r.agg), .e (.bool false), .e (.bool false), .e undef, .e undef, .e undef, .e undef, .e undef, .e undef, .e undef, .e undef, .e undef, .e undef, .e (.bool false), .e (.bool false)]) (fun w' => Below wr.heap.size wr w') (Below.drew (Below.refl _ _)) ⟨?s0, ?s1, ?s2, ?s3, ?s4, ?s5, ?s6, ?s7, ?s8, ?s9, ?s10, ?s11, ?s12, ?s13, ?s14, ?s15, ?s16, ?s17, ?s18, ?s19, ?s20, ?s21, ?s22, ?s23, ?s24, ?s25, ?s26, ?s27, ?s28, ?s29, ?s30, ?s31, ?s32, ?s33, ?s34, ?s35, ?s36, ?s37, ?s38, ?s39, ?s40, ?s41, ?s42, ?s43, ?s44, ?s45, ?s46, ?s47, ?s48, ?s49, ?s50, ?s51, ?s52, ?s53, ?s54, ?s55, ?s56, ?s57, ?s58, ?s59, ?s60, ?s61, ?s62, ?s63, ?s64, ?s65, ?s66, ?s67, ?s68, ?s69, ?s70, ?s71, ?s72, ?s73, ?s74, ?s75, ?s76, ?s77, ?s78, ?s79, ?s80, ?s81, ?s82, trivial⟩ ?fin
        case s0 =>
         intro a w' hoff hg hdep K hK
         have h7 := off_at hoff 7 (v := .pointer (some ⟨kp, 0, none⟩)) (by kernel_rfl) rfl
         rw [if_pos (by rfl)]
         go_simp
         exact hK.out _ _ hg rfl (fun _ _ h => h)
        case s1 =>
         intro a w' hoff hg hdep K hK
         obtain ⟨_, e0, rfl⟩ := hdep 0 _ 62 (by kernel_rfl) rfl rfl
         rw [if_pos (by rfl)]
         obtain ⟨p0, p1, p2⟩ := (X7.out.on (Below.step BN.out hg)).cells
         go_simp
         exact hK.out _ _ hg rfl (fun _ _ h => h)
        case s2 =>
         intro a w' hoff hg hdep K hK
         have h7 := off_at hoff 7 (v := .pointer (some ⟨kp, 0, none⟩)) (by kernel_rfl) rfl
         rw [if_pos (by rfl)]
         go_simp
         exact hK.out _ _ hg rfl (fun _ _ h => h)
        case s3 =>
         intro a w' hoff hg hdep K hK
         obtain ⟨_, e2, rfl⟩ := hdep 2 _ 64 (by kernel_rfl) rfl rfl
         rw [if_pos (by rfl)]
         obtain ⟨p0, p1, p2⟩ := (X7.out.on (Below.step BN.out hg)).cells
         go_simp
         exact hK.out _ _ hg rfl (fun _ _ h => h)
        case s4 =>
         intro a w' hoff hg hdep K hK
         obtain ⟨_, e1, rfl⟩ := hdep 1 _ 63 (by kernel_rfl) rfl rfl
         obtain ⟨_, e3, rfl⟩ := hdep 3 _ 65 (by kernel_rfl) rfl rfl
         rw [if_pos (by rfl)]
         go_simp
         exact hK.out _ _ hg rfl (fun _ _ h => h)
        case s5 =>
         intro a w' hoff hg hdep K hK
         obtain ⟨_, e4, rfl⟩ := hdep 4 _ 66 (by kernel_rfl) rfl rfl
         rw [if_pos (by rfl)]
         go_simp
         exact hK.out _ _ hg rfl (fun _ _ h => h)
        case s6 =>
         intro a w' hoff hg hdep K hK
         have h6 := off_at hoff 6 (v := .pointer (some ⟨kr, 0, none⟩)) (by kernel_rfl) rfl
         obtain ⟨_, e5, rfl⟩ := hdep 5 _ 67 (by kernel_rfl) rfl rfl
         rw [if_pos (by simp [Region.wanted, yielded, e5])]
         go_simp
         exact hK.out _ _ hg rfl (fun _ _ h => h)
        case s7 =>
         intro a w' hoff hg hdep K hK
         obtain ⟨_, e6, rfl⟩ := hdep 6 _ 68 (by kernel_rfl) rfl rfl
         obtain ⟨_, e5, rfl⟩ := hdep 5 _ 67 (by kernel_rfl) rfl rfl
         rw [if_pos (by simp [Region.wanted, yielded, e5])]
         obtain ⟨o0, o1, o2, o3, o4, o5⟩ := (X6.out.on (Below.step BN.out hg)).cells
         go_simp
         exact hK.out _ _ hg rfl (fun _ _ h => h)
        case s8 =>
         intro a w' hoff hg hdep K hK
         obtain ⟨_, e7, rfl⟩ := hdep 7 _ 69 (by kernel_rfl) rfl rfl
         obtain ⟨_, e5, rfl⟩ := hdep 5 _ 67 (by kernel_rfl) rfl rfl
         rw [if_pos (by simp [Region.wanted, yielded, e5])]
         go_simp
         exact hK.out _ _ hg rfl (fun _ _ h => h)
        case s9 =>
         intro a w' hoff hg hdep K hK
         obtain ⟨_, e8, rfl⟩ := hdep 8 _ 70 (by kernel_rfl) rfl rfl
         obtain ⟨_, e5, rfl⟩ := hdep 5 _ 67 (by kernel_rfl) rfl rfl
         rw [if_pos (by simp [Region.wanted, yielded, e5])]
         go_simp
         exact hK.out _ _ hg rfl (fun _ _ h => h)
        case s10 =>
         intro a w' hoff hg hdep K hK
         obtain ⟨_, e9, rfl⟩ := hdep 9 _ 71 (by kernel_rfl) rfl rfl
         obtain ⟨_, e5, rfl⟩ := hdep 5 _ 67 (by kernel_rfl) rfl rfl
         rw [if_pos (by simp [Region.wanted, yielded, e5])]
         have m1 := (hg.cell (p := ⟨zb, zo + 1, none⟩) ZB.out).trans Z1.out
         go_simp
         exact hK.out _ _ hg rfl (fun _ _ h => h)
        case s11 =>
         intro a w' hoff hg hdep K hK
         have h7 := off_at hoff 7 (v := .pointer (some ⟨kp, 0, none⟩)) (by kernel_rfl) rfl
         obtain ⟨_, e5, rfl⟩ := hdep 5 _ 67 (by kernel_rfl) rfl rfl
         rw [if_pos (by simp [Region.wanted, yielded, e5])]
         go_simp
         exact hK.out _ _ hg rfl (fun _ _ h => h)
        case s12 =>
         intro a w' hoff hg hdep K hK
         obtain ⟨_, e11, rfl⟩ := hdep 11 _ 73 (by kernel_rfl) rfl rfl
         obtain ⟨_, e5, rfl⟩ := hdep 5 _ 67 (by kernel_rfl) rfl rfl
         rw [if_pos (by simp [Region.wanted, yielded, e5])]
         obtain ⟨p0, p1, p2⟩ := (X7.out.on (Below.step BN.out hg)).cells
         go_simp
         exact hK.out _ _ hg rfl (fun _ _ h => h)
        case s13 =>
         intro a w' hoff hg hdep K hK
         obtain ⟨_, e10, rfl⟩ := hdep 10 _ 72 (by kernel_rfl) rfl rfl
         obtain ⟨_, e12, rfl⟩ := hdep 12 _ 74 (by kernel_rfl) rfl rfl
         obtain ⟨_, e5, rfl⟩ := hdep 5 _ 67 (by kernel_rfl) rfl rfl
         rw [if_pos (by simp [Region.wanted, yielded, e5])]
         go_simp
         exact hK.out _ _ hg rfl (fun _ _ h => h)
        case s14 =>
         intro a w' hoff hg hdep K hK
         obtain ⟨_, e5, rfl⟩ := hdep 5 _ 67 (by kernel_rfl) rfl rfl
         obtain ⟨_, e13, rfl⟩ := hdep 13 _ 75 (by kernel_rfl) rfl rfl
         rw [if_pos (by rfl)]
         go_simp
         exact hK.out _ _ hg rfl (fun _ _ h => h)
        case s15 =>
         intro a w' hoff hg hdep K hK
         obtain ⟨_, e14, rfl⟩ := hdep 14 _ 76 (by kernel_rfl) rfl rfl
         rw [if_pos (by rfl)]
         go_simp
         exact hK.out _ _ hg rfl (fun _ _ h => h)
        case s16 =>
         intro a w' hoff hg hdep K hK
         have h7 := off_at hoff 7 (v := .pointer (some ⟨kp, 0, none⟩)) (by kernel_rfl) rfl
         obtain ⟨_, e15, rfl⟩ := hdep 15 _ 77 (by kernel_rfl) rfl rfl
         rw [if_pos (by simp [Region.wanted, yielded, e15])]
         go_simp
         exact hK.out _ _ hg rfl (fun _ _ h => h)
        case s17 =>
         intro a w' hoff hg hdep K hK
         obtain ⟨_, e16, rfl⟩ := hdep 16 _ 78 (by kernel_rfl) rfl rfl
         obtain ⟨_, e15, rfl⟩ := hdep 15 _ 77 (by kernel_rfl) rfl rfl
         rw [if_pos (by simp [Region.wanted, yielded, e15])]
         obtain ⟨p0, p1, p2⟩ := (X7.out.on (Below.step BN.out hg)).cells
         go_simp
         exact hK.out _ _ hg rfl (fun _ _ h => h)
        case s18 =>
         intro a w' hoff hg hdep K hK
         obtain ⟨_, e17, rfl⟩ := hdep 17 _ 79 (by kernel_rfl) rfl rfl
         obtain ⟨_, e15, rfl⟩ := hdep 15 _ 77 (by kernel_rfl) rfl rfl
         rw [if_pos (by simp [Region.wanted, yielded, e15])]
         go_simp
         exact hK.out _ _ hg rfl (fun _ _ h => h)
        case s19 =>
         intro a w' hoff hg hdep K hK
         obtain ⟨_, e18, rfl⟩ := hdep 18 _ 80 (by kernel_rfl) rfl rfl
         obtain ⟨_, e15, rfl⟩ := hdep 15 _ 77 (by kernel_rfl) rfl rfl
         rw [if_pos (by simp [Region.wanted, yielded, e15])]
         go_simp
         exact hK.out _ _ hg rfl (fun _ _ h => h)
        case s20 =>
         intro a w' hoff hg hdep K hK
         have h6 := off_at hoff 6 (v := .pointer (some ⟨kr, 0, none⟩)) (by kernel_rfl) rfl
         obtain ⟨_, e19, rfl⟩ := hdep 19 _ 81 (by kernel_rfl) rfl rfl
         rw [if_pos (by simp [Region.wanted, yielded, e19])]
         go_simp
         exact hK.out _ _ hg rfl (fun _ _ h => h)
        case s21 =>
         intro a w' hoff hg hdep K hK
         obtain ⟨_, e20, rfl⟩ := hdep 20 _ 82 (by kernel_rfl) rfl rfl
         obtain ⟨_, e19, rfl⟩ := hdep 19 _ 81 (by kernel_rfl) rfl rfl
         rw [if_pos (by simp [Region.wanted, yielded, e19])]
         obtain ⟨o0, o1, o2, o3, o4, o5⟩ := (X6.out.on (Below.step BN.out hg)).cells
         go_simp
         exact hK.out _ _ hg rfl (fun _ _ h => h)
        case s22 =>
         intro a w' hoff hg hdep K hK
         have h7 := off_at hoff 7 (v := .pointer (some ⟨kp, 0, none⟩)) (by kernel_rfl) rfl
         obtain ⟨_, e19, rfl⟩ := hdep 19 _ 81 (by kernel_rfl) rfl rfl
         rw [if_pos (by simp [Region.wanted, yielded, e19])]
         go_simp
         exact hK.out _ _ hg rfl (fun _ _ h => h)
        case s23 =>
         intro a w' hoff hg hdep K hK
         obtain ⟨_, e22, rfl⟩ := hdep 22 _ 84 (by kernel_rfl) rfl rfl
         obtain ⟨_, e19, rfl⟩ := hdep 19 _ 81 (by kernel_rfl) rfl rfl
         rw [if_pos (by simp [Region.wanted, yielded, e19])]
         obtain ⟨p0, p1, p2⟩ := (X7.out.on (Below.step BN.out hg)).cells
         go_simp
         exact hK.out _ _ hg rfl (fun _ _ h => h)
        case s24 =>
         intro a w' hoff hg hdep K hK
         have h7 := off_at hoff 7 (v := .pointer (some ⟨kp, 0, none⟩)) (by kernel_rfl) rfl
         obtain ⟨_, e19, rfl⟩ := hdep 19 _ 81 (by kernel_rfl) rfl rfl
         rw [if_pos (by simp [Region.wanted, yielded, e19])]
         go_simp
         exact hK.out _ _ hg rfl (fun _ _ h => h)
        case s25 =>
         intro a w' hoff hg hdep K hK
         obtain ⟨_, e24, rfl⟩ := hdep 24 _ 86 (by kernel_rfl) rfl rfl
         obtain ⟨_, e19, rfl⟩ := hdep 19 _ 81 (by kernel_rfl) rfl rfl
         rw [if_pos (by simp [Region.wanted, yielded, e19])]
         obtain ⟨p0, p1, p2⟩ := (X7.out.on (Below.step BN.out hg)).cells
         go_simp
         exact hK.out _ _ hg rfl (fun _ _ h => h)
        case s26 =>
         intro a w' hoff hg hdep K hK
         obtain ⟨_, e21, rfl⟩ := hdep 21 _ 83 (by kernel_rfl) rfl rfl
         obtain ⟨_, e23, rfl⟩ := hdep 23 _ 85 (by kernel_rfl) rfl rfl
         obtain ⟨_, e25, rfl⟩ := hdep 25 _ 87 (by kernel_rfl) rfl rfl
         obtain ⟨_, e19, rfl⟩ := hdep 19 _ 81 (by kernel_rfl) rfl rfl
         rw [if_pos (by simp [Region.wanted, yielded, e19])]
         go_simp
         refine (linked7_any r.body p.from' p.to' (fun b => b < k6) w' _ (fun b hb => Nat.lt_of_lt_of_le hb (Nat.le_trans KN.out hg.size)) (RepLis.on (fun _ h => h) (fun b hb => hg.block b (Nat.lt_of_lt_of_le hb KN.out)) GN.out.2.2.2.2.2.2.2.2.2) (by have := HBL.out; omega)).mono ?_
         rintro e w2' ⟨rfl, hb⟩
         rw [HLK.out]
         exact hK.out _ _ (Below.step hg hb) rfl (fSt trivial)
        case s27 =>
         intro a w' hoff hg hdep K hK
         obtain ⟨_, e26, rfl⟩ := hdep 26 _ 88 (by kernel_rfl) rfl rfl
         obtain ⟨_, e19, rfl⟩ := hdep 19 _ 81 (by kernel_rfl) rfl rfl
         rw [if_pos (by simp [Region.wanted, yielded, e19])]
         go_simp
         exact hK.out _ _ hg rfl (fun _ _ h => h)
        case s28 =>
         intro a w' hoff hg hdep K hK
         obtain ⟨_, e27, rfl⟩ := hdep 27 _ 89 (by kernel_rfl) rfl rfl
         obtain ⟨_, e19, rfl⟩ := hdep 19 _ 81 (by kernel_rfl) rfl rfl
         rw [if_pos (by simp [Region.wanted, yielded, e19])]
         go_simp
         exact hK.out _ _ hg rfl (fun _ _ h => h)
        case s29 =>
         intro a w' hoff hg hdep K hK
         have h7 := off_at hoff 7 (v := .pointer (some ⟨kp, 0, none⟩)) (by kernel_rfl) rfl
         obtain ⟨_, e28, rfl⟩ := hdep 28 _ 90 (by kernel_rfl) rfl rfl
         rw [if_pos (by simp [Region.wanted, yielded, e28])]
         go_simp
         exact hK.out _ _ hg rfl (fun _ _ h => h)
        case s30 =>
         intro a w' hoff hg hdep K hK
         obtain ⟨_, e29, rfl⟩ := hdep 29 _ 91 (by kernel_rfl) rfl rfl
         obtain ⟨_, e28, rfl⟩ := hdep 28 _ 90 (by kernel_rfl) rfl rfl
         rw [if_pos (by simp [Region.wanted, yielded, e28])]
         obtain ⟨p0, p1, p2⟩ := (X7.out.on (Below.step BN.out hg)).cells
         go_simp
         exact hK.out _ _ hg rfl (fun _ _ h => h)
        case s31 =>
         intro a w' hoff hg hdep K hK
         have h7 := off_at hoff 7 (v := .pointer (some ⟨kp, 0, none⟩)) (by kernel_rfl) rfl
         obtain ⟨_, e28, rfl⟩ := hdep 28 _ 90 (by kernel_rfl) rfl rfl
         rw [if_pos (by simp [Region.wanted, yielded, e28])]
         go_simp
         exact hK.out _ _ hg rfl (fun _ _ h => h)
        case s32 =>
         intro a w' hoff hg hdep K hK
         obtain ⟨_, e31, rfl⟩ := hdep 31 _ 93 (by kernel_rfl) rfl rfl
         obtain ⟨_, e28, rfl⟩ := hdep 28 _ 90 (by kernel_rfl) rfl rfl
         rw [if_pos (by simp [Region.wanted, yielded, e28])]
         obtain ⟨p0, p1, p2⟩ := (X7.out.on (Below.step BN.out hg)).cells
         go_simp
         exact hK.out _ _ hg rfl (fun _ _ h => h)
        case s33 =>
         intro a w' hoff hg hdep K hK
         obtain ⟨_, e30, rfl⟩ := hdep 30 _ 92 (by kernel_rfl) rfl rfl
         obtain ⟨_, e32, rfl⟩ := hdep 32 _ 94 (by kernel_rfl) rfl rfl
         obtain ⟨_, e28, rfl⟩ := hdep 28 _ 90 (by kernel_rfl) rfl rfl
         rw [if_pos (by simp [Region.wanted, yielded, e28])]
         go_simp
         exact hK.out _ _ hg rfl (fun _ _ h => h)
        case s34 =>
         intro a w' hoff hg hdep K hK
         obtain ⟨_, e33, rfl⟩ := hdep 33 _ 95 (by kernel_rfl) rfl rfl
         obtain ⟨_, e28, rfl⟩ := hdep 28 _ 90 (by kernel_rfl) rfl rfl
         rw [if_pos (by simp [Region.wanted, yielded, e28])]
         go_simp
         exact hK.out _ _ hg rfl (fun _ _ h => h)
        case s35 =>
         intro a w' hoff hg hdep K hK
         have h7 := off_at hoff 7 (v := .pointer (some ⟨kp, 0, none⟩)) (by kernel_rfl) rfl
         obtain ⟨_, e34, rfl⟩ := hdep 34 _ 96 (by kernel_rfl) rfl rfl
         rw [if_pos (by simp [Region.wanted, yielded, e34])]
         go_simp
         exact hK.out _ _ hg rfl (fun _ _ h => h)
        case s36 =>
         intro a w' hoff hg hdep K hK
         obtain ⟨_, e35, rfl⟩ := hdep 35 _ 97 (by kernel_rfl) rfl rfl
         obtain ⟨_, e34, rfl⟩ := hdep 34 _ 96 (by kernel_rfl) rfl rfl
         rw [if_pos (by simp [Region.wanted, yielded, e34])]
         obtain ⟨p0, p1, p2⟩ := (X7.out.on (Below.step BN.out hg)).cells
         go_simp
         exact hK.out _ _ hg rfl (fun _ _ h => h)
        case s37 =>
         intro a w' hoff hg hdep K hK
         have h7 := off_at hoff 7 (v := .pointer (some ⟨kp, 0, none⟩)) (by kernel_rfl) rfl
         obtain ⟨_, e34, rfl⟩ := hdep 34 _ 96 (by kernel_rfl) rfl rfl
         rw [if_pos (by simp [Region.wanted, yielded, e34])]
         go_simp
         exact hK.out _ _ hg rfl (fun _ _ h => h)
        case s38 =>
         intro a w' hoff hg hdep K hK
         obtain ⟨_, e37, rfl⟩ := hdep 37 _ 99 (by kernel_rfl) rfl rfl
         obtain ⟨_, e34, rfl⟩ := hdep 34 _ 96 (by kernel_rfl) rfl rfl
         rw [if_pos (by simp [Region.wanted, yielded, e34])]
         obtain ⟨p0, p1, p2⟩ := (X7.out.on (Below.step BN.out hg)).cells
         go_simp
         exact hK.out _ _ hg rfl (fun _ _ h => h)
        case s39 =>
         intro a w' hoff hg hdep K hK
         obtain ⟨_, e36, rfl⟩ := hdep 36 _ 98 (by kernel_rfl) rfl rfl
         obtain ⟨_, e38, rfl⟩ := hdep 38 _ 100 (by kernel_rfl) rfl rfl
         obtain ⟨_, e34, rfl⟩ := hdep 34 _ 96 (by kernel_rfl) rfl rfl
         rw [if_pos (by simp [Region.wanted, yielded, e34])]
         go_simp
         exact hK.out _ _ hg rfl (fun _ _ h => h)
        case s40 =>
         intro a w' hoff hg hdep K hK
         obtain ⟨_, e34, rfl⟩ := hdep 34 _ 96 (by kernel_rfl) rfl rfl
         obtain ⟨_, e39, rfl⟩ := hdep 39 _ 101 (by kernel_rfl) rfl rfl
         obtain ⟨_, e28, rfl⟩ := hdep 28 _ 90 (by kernel_rfl) rfl rfl
         rw [if_pos (by simp [Region.wanted, yielded, e28])]
         go_simp
         exact hK.out _ _ hg rfl (fun _ _ h => h)
        case s41 =>
         intro a w' hoff hg hdep K hK
         obtain ⟨_, e28, rfl⟩ := hdep 28 _ 90 (by kernel_rfl) rfl rfl
         obtain ⟨_, e40, rfl⟩ := hdep 40 _ 102 (by kernel_rfl) rfl rfl
         obtain ⟨_, e19, rfl⟩ := hdep 19 _ 81 (by kernel_rfl) rfl rfl
         rw [if_pos (by simp [Region.wanted, yielded, e19])]
         go_simp
         exact hK.out _ _ hg rfl (fun _ _ h => h)
        case s42 =>
         intro a w' hoff hg hdep K hK
         obtain ⟨_, e19, rfl⟩ := hdep 19 _ 81 (by kernel_rfl) rfl rfl
         obtain ⟨_, e41, rfl⟩ := hdep 41 _ 103 (by kernel_rfl) rfl rfl
         obtain ⟨_, e15, rfl⟩ := hdep 15 _ 77 (by kernel_rfl) rfl rfl
         rw [if_pos (by simp [Region.wanted, yielded, e15])]
         go_simp
         exact hK.out _ _ hg rfl (fun _ _ h => h)
        case s43 =>
         intro a w' hoff hg hdep K hK
         obtain ⟨_, e15, rfl⟩ := hdep 15 _ 77 (by kernel_rfl) rfl rfl
         obtain ⟨_, e42, rfl⟩ := hdep 42 _ 104 (by kernel_rfl) rfl rfl
         rw [if_pos (by rfl)]
         go_simp
         exact hK.out _ _ hg rfl (fun _ _ h => h)
        case s44 =>
         intro a w' hoff hg hdep K hK
         obtain ⟨_, e43, rfl⟩ := hdep 43 _ 105 (by kernel_rfl) rfl rfl
         rw [if_pos (by rfl)]
         go_simp
         exact hK.out _ _ hg rfl (fun _ _ h => h)
        case s45 =>
         intro a w' hoff hg hdep K hK
         have h7 := off_at hoff 7 (v := .pointer (some ⟨kp, 0, none⟩)) (by kernel_rfl) rfl
         obtain ⟨_, e44, rfl⟩ := hdep 44 _ 106 (by kernel_rfl) rfl rfl
         rw [if_pos (by simp [Region.wanted, yielded, e44])]
         go_simp
         exact hK.out _ _ hg rfl (fun _ _ h => h)
        case s46 =>
         intro a w' hoff hg hdep K hK
         obtain ⟨_, e45, rfl⟩ := hdep 45 _ 107 (by kernel_rfl) rfl rfl
         obtain ⟨_, e44, rfl⟩ := hdep 44 _ 106 (by kernel_rfl) rfl rfl
         rw [if_pos (by simp [Region.wanted, yielded, e44])]
         obtain ⟨p0, p1, p2⟩ := (X7.out.on (Below.step BN.out hg)).cells
         go_simp
         exact hK.out _ _ hg rfl (fun _ _ h => h)
        case s47 =>
         intro a w' hoff hg hdep K hK
         obtain ⟨_, e46, rfl⟩ := hdep 46 _ 108 (by kernel_rfl) rfl rfl
         obtain ⟨_, e44, rfl⟩ := hdep 44 _ 106 (by kernel_rfl) rfl rfl
         rw [if_pos (by simp [Region.wanted, yielded, e44])]
         go_simp
         exact hK.out _ _ hg rfl (fun _ _ h => h)
        case s48 =>
         intro a w' hoff hg hdep K hK
         obtain ⟨_, e47, rfl⟩ := hdep 47 _ 109 (by kernel_rfl) rfl rfl
         obtain ⟨_, e44, rfl⟩ := hdep 44 _ 106 (by kernel_rfl) rfl rfl
         rw [if_pos (by simp [Region.wanted, yielded, e44])]
         go_simp
         exact hK.out _ _ hg rfl (fun _ _ h => h)
        case s49 =>
         intro a w' hoff hg hdep K hK
         have h7 := off_at hoff 7 (v := .pointer (some ⟨kp, 0, none⟩)) (by kernel_rfl) rfl
         obtain ⟨_, e48, rfl⟩ := hdep 48 _ 110 (by kernel_rfl) rfl rfl
         rw [if_neg (by simp [Region.wanted, yielded, e48])]
         exact hK.out _ _ hg rfl (fun _ _ h => h)
        case s50 =>
         intro a w' hoff hg hdep K hK
         obtain ⟨v49, e49, f49⟩ := hdep 49 _ 111 (by kernel_rfl) rfl rfl
         obtain rfl : undef = v49 := Eq.symm f49
         obtain ⟨_, e48, rfl⟩ := hdep 48 _ 110 (by kernel_rfl) rfl rfl
         rw [if_neg (by simp [Region.wanted, yielded, e48])]
         exact hK.out _ _ hg rfl (fun _ _ h => h)
        case s51 =>
         intro a w' hoff hg hdep K hK
         have h7 := off_at hoff 7 (v := .pointer (some ⟨kp, 0, none⟩)) (by kernel_rfl) rfl
         obtain ⟨_, e48, rfl⟩ := hdep 48 _ 110 (by kernel_rfl) rfl rfl
         rw [if_neg (by simp [Region.wanted, yielded, e48])]
         exact hK.out _ _ hg rfl (fun _ _ h => h)
        case s52 =>
         intro a w' hoff hg hdep K hK
         obtain ⟨v51, e51, f51⟩ := hdep 51 _ 113 (by kernel_rfl) rfl rfl
         obtain rfl : undef = v51 := Eq.symm f51
         obtain ⟨_, e48, rfl⟩ := hdep 48 _ 110 (by kernel_rfl) rfl rfl
         rw [if_neg (by simp [Region.wanted, yielded, e48])]
         exact hK.out _ _ hg rfl (fun _ _ h => h)
        case s53 =>
         intro a w' hoff hg hdep K hK
         obtain ⟨v50, e50, f50⟩ := hdep 50 _ 112 (by kernel_rfl) rfl rfl
         obtain rfl : undef = v50 := Eq.symm f50
         obtain ⟨v52, e52, f52⟩ := hdep 52 _ 114 (by kernel_rfl) rfl rfl
         obtain rfl : undef = v52 := Eq.symm f52
         obtain ⟨_, e48, rfl⟩ := hdep 48 _ 110 (by kernel_rfl) rfl rfl
         rw [if_neg (by simp [Region.wanted, yielded, e48])]
         exact hK.out _ _ hg rfl (fun _ _ h => h)
        case s54 =>
         intro a w' hoff hg hdep K hK
         obtain ⟨_, e48, rfl⟩ := hdep 48 _ 110 (by kernel_rfl) rfl rfl
         obtain ⟨v53, e53, f53⟩ := hdep 53 _ 115 (by kernel_rfl) rfl rfl
         obtain rfl : undef = v53 := Eq.symm f53
         obtain ⟨_, e44, rfl⟩ := hdep 44 _ 106 (by kernel_rfl) rfl rfl
         rw [if_pos (by simp [Region.wanted, yielded, e44])]
         go_simp
         exact hK.out _ _ hg rfl (fun _ _ h => h)
        case s55 =>
         intro a w' hoff hg hdep K hK
         obtain ⟨_, e54, rfl⟩ := hdep 54 _ 116 (by kernel_rfl) rfl rfl
         obtain ⟨_, e44, rfl⟩ := hdep 44 _ 106 (by kernel_rfl) rfl rfl
         rw [if_pos (by simp [Region.wanted, yielded, e44])]
         go_simp
         exact hK.out _ _ hg rfl (fun _ _ h => h)
        case s56 =>
         intro a w' hoff hg hdep K hK
         have h6 := off_at hoff 6 (v := .pointer (some ⟨kr, 0, none⟩)) (by kernel_rfl) rfl
         obtain ⟨_, e55, rfl⟩ := hdep 55 _ 117 (by kernel_rfl) rfl rfl
         rw [if_neg (by simp [Region.wanted, yielded, e55])]
         exact hK.out _ _ hg rfl (fun _ _ h => h)
        case s57 =>
         intro a w' hoff hg hdep K hK
         obtain ⟨v56, e56, f56⟩ := hdep 56 _ 118 (by kernel_rfl) rfl rfl
         obtain rfl : undef = v56 := Eq.symm f56
         obtain ⟨_, e55, rfl⟩ := hdep 55 _ 117 (by kernel_rfl) rfl rfl
         rw [if_neg (by simp [Region.wanted, yielded, e55])]
         exact hK.out _ _ hg rfl (fun _ _ h => h)
        case s58 =>
         intro a w' hoff hg hdep K hK
         have h7 := off_at hoff 7 (v := .pointer (some ⟨kp, 0, none⟩)) (by kernel_rfl) rfl
         obtain ⟨_, e55, rfl⟩ := hdep 55 _ 117 (by kernel_rfl) rfl rfl
         rw [if_neg (by simp [Region.wanted, yielded, e55])]
         exact hK.out _ _ hg rfl (fun _ _ h => h)
        case s59 =>
         intro a w' hoff hg hdep K hK
         obtain ⟨v58, e58, f58⟩ := hdep 58 _ 120 (by kernel_rfl) rfl rfl
         obtain rfl : undef = v58 := Eq.symm f58
         obtain ⟨_, e55, rfl⟩ := hdep 55 _ 117 (by kernel_rfl) rfl rfl
         rw [if_neg (by simp [Region.wanted, yielded, e55])]
         exact hK.out _ _ hg rfl (fun _ _ h => h)
        case s60 =>
         intro a w' hoff hg hdep K hK
         have h7 := off_at hoff 7 (v := .pointer (some ⟨kp, 0, none⟩)) (by kernel_rfl) rfl
         obtain ⟨_, e55, rfl⟩ := hdep 55 _ 117 (by kernel_rfl) rfl rfl
         rw [if_neg (by simp [Region.wanted, yielded, e55])]
         exact hK.out _ _ hg rfl (fun _ _ h => h)
        case s61 =>
         intro a w' hoff hg hdep K hK
         obtain ⟨v60, e60, f60⟩ := hdep 60 _ 122 (by kernel_rfl) rfl rfl
         obtain rfl : undef = v60 := Eq.symm f60
         obtain ⟨_, e55, rfl⟩ := hdep 55 _ 117 (by kernel_rfl) rfl rfl
         rw [if_neg (by simp [Region.wanted, yielded, e55])]
         exact hK.out _ _ hg rfl (fun _ _ h => h)
        case s62 =>
         intro a w' hoff hg hdep K hK
         obtain ⟨v57, e57, f57⟩ := hdep 57 _ 119 (by kernel_rfl) rfl rfl
         obtain rfl : undef = v57 := Eq.symm f57
         obtain ⟨v59, e59, f59⟩ := hdep 59 _ 121 (by kernel_rfl) rfl rfl
         obtain rfl : undef = v59 := Eq.symm f59
         obtain ⟨v61, e61, f61⟩ := hdep 61 _ 123 (by kernel_rfl) rfl rfl
         obtain rfl : undef = v61 := Eq.symm f61
         obtain ⟨_, e55, rfl⟩ := hdep 55 _ 117 (by kernel_rfl) rfl rfl
         rw [if_neg (by simp [Region.wanted, yielded, e55])]
         exact hK.out _ _ hg rfl (fun _ _ h => h)
        case s63 =>
         intro a w' hoff hg hdep K hK
         obtain ⟨v62, e62, f62⟩ := hdep 62 _ 124 (by kernel_rfl) rfl rfl
         obtain rfl : undef = v62 := Eq.symm f62
         obtain ⟨_, e55, rfl⟩ := hdep 55 _ 117 (by kernel_rfl) rfl rfl
         rw [if_neg (by simp [Region.wanted, yielded, e55])]
         exact hK.out _ _ hg rfl (fun _ _ h => h)
        case s64 =>
         intro a w' hoff hg hdep K hK
         obtain ⟨_, e55, rfl⟩ := hdep 55 _ 117 (by kernel_rfl) rfl rfl
         obtain ⟨v63, e63, f63⟩ := hdep 63 _ 125 (by kernel_rfl) rfl rfl
         obtain rfl : undef = v63 := Eq.symm f63
         obtain ⟨_, e44, rfl⟩ := hdep 44 _ 106 (by kernel_rfl) rfl rfl
         rw [if_pos (by simp [Region.wanted, yielded, e44])]
         go_simp
         exact hK.out _ _ hg rfl (fun _ _ h => h)
        case s65 =>
         intro a w' hoff hg hdep K hK
         obtain ⟨_, e44, rfl⟩ := hdep 44 _ 106 (by kernel_rfl) rfl rfl
         obtain ⟨_, e64, rfl⟩ := hdep 64 _ 126 (by kernel_rfl) rfl rfl
         rw [if_pos (by rfl)]
         go_simp
         exact hK.out _ _ hg rfl (fun _ _ h => h)
        case s66 =>
         intro a w' hoff hg hdep K hK
         obtain ⟨_, e65, rfl⟩ := hdep 65 _ 127 (by kernel_rfl) rfl rfl
         rw [if_pos (by rfl)]
         go_simp
         exact hK.out _ _ hg rfl (fun _ _ h => h)
        case s67 =>
         intro a w' hoff hg hdep K hK
         have h6 := off_at hoff 6 (v := .pointer (some ⟨kr, 0, none⟩)) (by kernel_rfl) rfl
         obtain ⟨_, e66, rfl⟩ := hdep 66 _ 128 (by kernel_rfl) rfl rfl
         rw [if_pos (by simp [Region.wanted, yielded, e66])]
         go_simp
         exact hK.out _ _ hg rfl (fun _ _ h => h)
        case s68 =>
         intro a w' hoff hg hdep K hK
         obtain ⟨_, e67, rfl⟩ := hdep 67 _ 129 (by kernel_rfl) rfl rfl
         obtain ⟨_, e66, rfl⟩ := hdep 66 _ 128 (by kernel_rfl) rfl rfl
         rw [if_pos (by simp [Region.wanted, yielded, e66])]
         obtain ⟨o0, o1, o2, o3, o4, o5⟩ := (X6.out.on (Below.step BN.out hg)).cells
         go_simp
         exact hK.out _ _ hg rfl (fun _ _ h => h)
        case s69 =>
         intro a w' hoff hg hdep K hK
         obtain ⟨_, e68, rfl⟩ := hdep 68 _ 130 (by kernel_rfl) rfl rfl
         obtain ⟨_, e66, rfl⟩ := hdep 66 _ 128 (by kernel_rfl) rfl rfl
         rw [if_pos (by simp [Region.wanted, yielded, e66])]
         go_simp
         exact hK.out _ _ hg rfl (fun _ _ h => h)
        case s70 =>
         intro a w' hoff hg hdep K hK
         obtain ⟨_, e69, rfl⟩ := hdep 69 _ 131 (by kernel_rfl) rfl rfl
         obtain ⟨_, e66, rfl⟩ := hdep 66 _ 128 (by kernel_rfl) rfl rfl
         rw [if_pos (by simp [Region.wanted, yielded, e66])]
         go_simp
         exact hK.out _ _ hg rfl (fun _ _ h => h)
        case s71 =>
         intro a w' hoff hg hdep K hK
         have h7 := off_at hoff 7 (v := .pointer (some ⟨kp, 0, none⟩)) (by kernel_rfl) rfl
         obtain ⟨_, e70, rfl⟩ := hdep 70 _ 132 (by kernel_rfl) rfl rfl
         rw [if_neg (by simp [Region.wanted, yielded, e70])]
         exact hK.out _ _ hg rfl (fun _ _ h => h)
        case s72 =>
         intro a w' hoff hg hdep K hK
         obtain ⟨v71, e71, f71⟩ := hdep 71 _ 133 (by kernel_rfl) rfl rfl
         obtain rfl : undef = v71 := Eq.symm f71
         obtain ⟨_, e70, rfl⟩ := hdep 70 _ 132 (by kernel_rfl) rfl rfl
         rw [if_neg (by simp [Region.wanted, yielded, e70])]
         exact hK.out _ _ hg rfl (fun _ _ h => h)
        case s73 =>
         intro a w' hoff hg hdep K hK
         obtain ⟨v72, e72, f72⟩ := hdep 72 _ 134 (by kernel_rfl) rfl rfl
         obtain rfl : undef = v72 := Eq.symm f72
         obtain ⟨_, e70, rfl⟩ := hdep 70 _ 132 (by kernel_rfl) rfl rfl
         rw [if_neg (by simp [Region.wanted, yielded, e70])]
         exact hK.out _ _ hg rfl (fun _ _ h => h)
        case s74 =>
         intro a w' hoff hg hdep K hK
         obtain ⟨v73, e73, f73⟩ := hdep 73 _ 135 (by kernel_rfl) rfl rfl
         obtain rfl : undef = v73 := Eq.symm f73
         obtain ⟨_, e70, rfl⟩ := hdep 70 _ 132 (by kernel_rfl) rfl rfl
         rw [if_neg (by simp [Region.wanted, yielded, e70])]
         exact hK.out _ _ hg rfl (fun _ _ h => h)
        case s75 =>
         intro a w' hoff hg hdep K hK
         have h7 := off_at hoff 7 (v := .pointer (some ⟨kp, 0, none⟩)) (by kernel_rfl) rfl
         obtain ⟨v74, e74, f74⟩ := hdep 74 _ 136 (by kernel_rfl) rfl rfl
         obtain rfl : undef = v74 := Eq.symm f74
         rw [if_neg (by simp [Region.wanted, yielded, e74, undef])]
         exact hK.out _ _ hg rfl (fun _ _ h => h)
        case s76 =>
         intro a w' hoff hg hdep K hK
         obtain ⟨v75, e75, f75⟩ := hdep 75 _ 137 (by kernel_rfl) rfl rfl
         obtain rfl : undef = v75 := Eq.symm f75
         obtain ⟨v74, e74, f74⟩ := hdep 74 _ 136 (by kernel_rfl) rfl rfl
         obtain rfl : undef = v74 := Eq.symm f74
         rw [if_neg (by simp [Region.wanted, yielded, e74, undef])]
         exact hK.out _ _ hg rfl (fun _ _ h => h)
        case s77 =>
         intro a w' hoff hg hdep K hK
         have h7 := off_at hoff 7 (v := .pointer (some ⟨kp, 0, none⟩)) (by kernel_rfl) rfl
         obtain ⟨v74, e74, f74⟩ := hdep 74 _ 136 (by kernel_rfl) rfl rfl
         obtain rfl : undef = v74 := Eq.symm f74
         rw [if_neg (by simp [Region.wanted, yielded, e74, undef])]
         exact hK.out _ _ hg rfl (fun _ _ h => h)
        case s78 =>
         intro a w' hoff hg hdep K hK
         obtain ⟨v77, e77, f77⟩ := hdep 77 _ 139 (by kernel_rfl) rfl rfl
         obtain rfl : undef = v77 := Eq.symm f77
         obtain ⟨v74, e74, f74⟩ := hdep 74 _ 136 (by kernel_rfl) rfl rfl
         obtain rfl : undef = v74 := Eq.symm f74
         rw [if_neg (by simp [Region.wanted, yielded, e74, undef])]
         exact hK.out _ _ hg rfl (fun _ _ h => h)
        case s79 =>
         intro a w' hoff hg hdep K hK
         obtain ⟨v76, e76, f76⟩ := hdep 76 _ 138 (by kernel_rfl) rfl rfl
         obtain rfl : undef = v76 := Eq.symm f76
         obtain ⟨v78, e78, f78⟩ := hdep 78 _ 140 (by kernel_rfl) rfl rfl
         obtain rfl : undef = v78 := Eq.symm f78
         obtain ⟨v74, e74, f74⟩ := hdep 74 _ 136 (by kernel_rfl) rfl rfl
         obtain rfl : undef = v74 := Eq.symm f74
         rw [if_neg (by simp [Region.wanted, yielded, e74, undef])]
         exact hK.out _ _ hg rfl (fun _ _ h => h)
        case s80 =>
         intro a w' hoff hg hdep K hK
         obtain ⟨v74, e74, f74⟩ := hdep 74 _ 136 (by kernel_rfl) rfl rfl
         obtain rfl : undef = v74 := Eq.symm f74
         obtain ⟨v79, e79, f79⟩ := hdep 79 _ 141 (by kernel_rfl) rfl rfl
         obtain rfl : undef = v79 := Eq.symm f79
         obtain ⟨_, e70, rfl⟩ := hdep 70 _ 132 (by kernel_rfl) rfl rfl
         rw [if_neg (by simp [Region.wanted, yielded, e70])]
         exact hK.out _ _ hg rfl (fun _ _ h => h)
        case s81 =>
         intro a w' hoff hg hdep K hK
         obtain ⟨_, e70, rfl⟩ := hdep 70 _ 132 (by kernel_rfl) rfl rfl
         obtain ⟨v80, e80, f80⟩ := hdep 80 _ 142 (by kernel_rfl) rfl rfl
         obtain rfl : undef = v80 := Eq.symm f80
         obtain ⟨_, e66, rfl⟩ := hdep 66 _ 128 (by kernel_rfl) rfl rfl
         rw [if_pos (by simp [Region.wanted, yielded, e66])]
         go_simp
         exact hK.out _ _ hg rfl (fun _ _ h => h)
        case s82 =>
         intro a w' hoff hg hdep K hK
         obtain ⟨_, e66, rfl⟩ := hdep 66 _ 128 (by kernel_rfl) rfl rfl
         obtain ⟨_, e81, rfl⟩ := hdep 81 _ 143 (by kernel_rfl) rfl rfl
         rw [if_pos (by rfl)]
         go_simp
         exact hK.out _ _ hg rfl (fun _ _ h => h)
        case fin =>
         intro a w' hoff hg hf
         obtain ⟨_, e0, rfl⟩ := hf 0 _ 62 rfl rfl
         obtain ⟨_, e1, rfl⟩ := hf 1 _ 63 rfl rfl
         obtain ⟨_, e2, rfl⟩ := hf 2 _ 64 rfl rfl
         obtain ⟨_, e3, rfl⟩ := hf 3 _ 65 rfl rfl
         obtain ⟨_, e4, rfl⟩ := hf 4 _ 66 rfl rfl
         obtain ⟨_, e5, rfl⟩ := hf 5 _ 67 rfl rfl
         obtain ⟨_, e6, rfl⟩ := hf 6 _ 68 rfl rfl
         obtain ⟨_, e7, rfl⟩ := hf 7 _ 69 rfl rfl
         obtain ⟨_, e8, rfl⟩ := hf 8 _ 70 rfl rfl
         obtain ⟨_, e9, rfl⟩ := hf 9 _ 71 rfl rfl
         obtain ⟨_, e10, rfl⟩ := hf 10 _ 72 rfl rfl
         obtain ⟨_, e11, rfl⟩ := hf 11 _ 73 rfl rfl
         obtain ⟨_, e12, rfl⟩ := hf 12 _ 74 rfl rfl
         obtain ⟨_, e13, rfl⟩ := hf 13 _ 75 rfl rfl
         obtain ⟨_, e14, rfl⟩ := hf 14 _ 76 rfl rfl
         obtain ⟨_, e15, rfl⟩ := hf 15 _ 77 rfl rfl
         obtain ⟨_, e16, rfl⟩ := hf 16 _ 78 rfl rfl
         obtain ⟨_, e17, rfl⟩ := hf 17 _ 79 rfl rfl
         obtain ⟨_, e18, rfl⟩ := hf 18 _ 80 rfl rfl
         obtain ⟨_, e19, rfl⟩ := hf 19 _ 81 rfl rfl
         obtain ⟨_, e20, rfl⟩ := hf 20 _ 82 rfl rfl
         obtain ⟨_, e21, rfl⟩ := hf 21 _ 83 rfl rfl
         obtain ⟨_, e22, rfl⟩ := hf 22 _ 84 rfl rfl
         obtain ⟨_, e23, rfl⟩ := hf 23 _ 85 rfl rfl
         obtain ⟨_, e24, rfl⟩ := hf 24 _ 86 rfl rfl
         obtain ⟨_, e25, rfl⟩ := hf 25 _ 87 rfl rfl
         obtain ⟨_, e26, rfl⟩ := hf 26 _ 88 rfl rfl
         obtain ⟨_, e27, rfl⟩ := hf 27 _ 89 rfl rfl
         obtain ⟨_, e28, rfl⟩ := hf 28 _ 90 rfl rfl
         obtain ⟨_, e29, rfl⟩ := hf 29 _ 91 rfl rfl
         obtain ⟨_, e30, rfl⟩ := hf 30 _ 92 rfl rfl
         obtain ⟨_, e31, rfl⟩ := hf 31 _ 93 rfl rfl
         obtain ⟨_, e32, rfl⟩ := hf 32 _ 94 rfl rfl
         obtain ⟨_, e33, rfl⟩ := hf 33 _ 95 rfl rfl
         obtain ⟨_, e34, rfl⟩ := hf 34 _ 96 rfl rfl
         obtain ⟨_, e35, rfl⟩ := hf 35 _ 97 rfl rfl
         obtain ⟨_, e36, rfl⟩ := hf 36 _ 98 rfl rfl
         obtain ⟨_, e37, rfl⟩ := hf 37 _ 99 rfl rfl
         obtain ⟨_, e38, rfl⟩ := hf 38 _ 100 rfl rfl
         obtain ⟨_, e39, rfl⟩ := hf 39 _ 101 rfl rfl
         obtain ⟨_, e40, rfl⟩ := hf 40 _ 102 rfl rfl
         obtain ⟨_, e41, rfl⟩ := hf 41 _ 103 rfl rfl
         obtain ⟨_, e42, rfl⟩ := hf 42 _ 104 rfl rfl
         obtain ⟨_, e43, rfl⟩ := hf 43 _ 105 rfl rfl
         obtain ⟨_, e44, rfl⟩ := hf 44 _ 106 rfl rfl
         obtain ⟨_, e45, rfl⟩ := hf 45 _ 107 rfl rfl
         obtain ⟨_, e46, rfl⟩ := hf 46 _ 108 rfl rfl
         obtain ⟨_, e47, rfl⟩ := hf 47 _ 109 rfl rfl
         obtain ⟨_, e48, rfl⟩ := hf 48 _ 110 rfl rfl
         obtain ⟨v49, e49, f49⟩ := hf 49 _ 111 rfl rfl
         obtain rfl : undef = v49 := Eq.symm f49
         obtain ⟨v50, e50, f50⟩ := hf 50 _ 112 rfl rfl
         obtain rfl : undef = v50 := Eq.symm f50
         obtain ⟨v51, e51, f51⟩ := hf 51 _ 113 rfl rfl
         obtain rfl : undef = v51 := Eq.symm f51
         obtain ⟨v52, e52, f52⟩ := hf 52 _ 114 rfl rfl
         obtain rfl : undef = v52 := Eq.symm f52
         obtain ⟨v53, e53, f53⟩ := hf 53 _ 115 rfl rfl
         obtain rfl : undef = v53 := Eq.symm f53
         obtain ⟨_, e54, rfl⟩ := hf 54 _ 116 rfl rfl
         obtain ⟨_, e55, rfl⟩ := hf 55 _ 117 rfl rfl
         obtain ⟨v56, e56, f56⟩ := hf 56 _ 118 rfl rfl
         obtain rfl : undef = v56 := Eq.symm f56
         obtain ⟨v57, e57, f57⟩ := hf 57 _ 119 rfl rfl
         obtain rfl : undef = v57 := Eq.symm f57
         obtain ⟨v58, e58, f58⟩ := hf 58 _ 120 rfl rfl
         obtain rfl : undef = v58 := Eq.symm f58
         obtain ⟨v59, e59, f59⟩ := hf 59 _ 121 rfl rfl
         obtain rfl : undef = v59 := Eq.symm f59
         obtain ⟨v60, e60, f60⟩ := hf 60 _ 122 rfl rfl
         obtain rfl : undef = v60 := Eq.symm f60
         obtain ⟨v61, e61, f61⟩ := hf 61 _ 123 rfl rfl
         obtain rfl : undef = v61 := Eq.symm f61
         obtain ⟨v62, e62, f62⟩ := hf 62 _ 124 rfl rfl
         obtain rfl : undef = v62 := Eq.symm f62
         obtain ⟨v63, e63, f63⟩ := hf 63 _ 125 rfl rfl
         obtain rfl : undef = v63 := Eq.symm f63
         obtain ⟨_, e64, rfl⟩ := hf 64 _ 126 rfl rfl
         obtain ⟨_, e65, rfl⟩ := hf 65 _ 127 rfl rfl
         obtain ⟨_, e66, rfl⟩ := hf 66 _ 128 rfl rfl
         obtain ⟨_, e67, rfl⟩ := hf 67 _ 129 rfl rfl
         obtain ⟨_, e68, rfl⟩ := hf 68 _ 130 rfl rfl
         obtain ⟨_, e69, rfl⟩ := hf 69 _ 131 rfl rfl
         obtain ⟨_, e70, rfl⟩ := hf 70 _ 132 rfl rfl
         obtain ⟨v71, e71, f71⟩ := hf 71 _ 133 rfl rfl
         obtain rfl : undef = v71 := Eq.symm f71
         obtain ⟨v72, e72, f72⟩ := hf 72 _ 134 rfl rfl
         obtain rfl : undef = v72 := Eq.symm f72
         obtain ⟨v73, e73, f73⟩ := hf 73 _ 135 rfl rfl
         obtain rfl : undef = v73 := Eq.symm f73
         obtain ⟨v74, e74, f74⟩ := hf 74 _ 136 rfl rfl
         obtain rfl : undef = v74 := Eq.symm f74
         obtain ⟨v75, e75, f75⟩ := hf 75 _ 137 rfl rfl
         obtain rfl : undef = v75 := Eq.symm f75
         obtain ⟨v76, e76, f76⟩ := hf 76 _ 138 rfl rfl
         obtain rfl : undef = v76 := Eq.symm f76
         obtain ⟨v77, e77, f77⟩ := hf 77 _ 139 rfl rfl
         obtain rfl : undef = v77 := Eq.symm f77
         obtain ⟨v78, e78, f78⟩ := hf 78 _ 140 rfl rfl
         obtain rfl : undef = v78 := Eq.symm f78
         obtain ⟨v79, e79, f79⟩ := hf 79 _ 141 rfl rfl
         obtain rfl : undef = v79 := Eq.symm f79
         obtain ⟨v80, e80, f80⟩ := hf 80 _ 142 rfl rfl
         obtain rfl : undef = v80 := Eq.symm f80
         obtain ⟨_, e81, rfl⟩ := hf 81 _ 143 rfl rfl
         obtain ⟨_, e82, rfl⟩ := hf 82 _ 144 rfl rfl
         rw [hoff.sets [(62, .pointer (some ⟨kp, 0, none⟩)), (63, .string p.from'), (64, .pointer (some ⟨kp, 1, none⟩)), (65, .string p.to'), (66, .bool false), (67, .bool false), (68, .pointer (some ⟨kr, 2, none⟩)), (69, .slice (some ⟨zb, zo, none⟩) r.args.length xc), (70, .pointer (some ⟨zb, zo, none⟩)), (71, .pointer (some ⟨zb, zo + 1, none⟩)), (72, .string p.head), (73, .pointer (some ⟨kp, 2, none⟩)), (74, .string p.head), (75, .bool false), (76, .bool false), (77, .bool false), (78, .pointer (some ⟨kp, 1, none⟩)), (79, .string p.to'), (80, .bool true), (81, .bool true), (82, .pointer (some ⟨kr, 5, none⟩)), (83, .slice ya r.body.length yc), (84, .pointer (some ⟨kp, 0, none⟩)), (85, .string p.from'), (86, .pointer (some ⟨kp, 1, none⟩)), (87, .string p.to'), (88, .bool true), (89, .bool false), (90, .bool false), (91, .pointer (some ⟨kp, 2, none⟩)), (92, .string p.head), (93, .pointer (some ⟨kp, 0, none⟩)), (94, .string p.from'), (95, .bool true), (96, .bool true), (97, .pointer (some ⟨kp, 2, none⟩)), (98, .string p.head), (99, .pointer (some ⟨kp, 1, none⟩)), (100, .string p.to'), (101, .bool false), (102, .bool false), (103, .bool false), (104, .bool false), (105, .bool false), (106, .bool false), (107, .pointer (some ⟨kp, 1, none⟩)), (108, .string p.to'), (109, .bool false), (110, .bool false), (111, undef), (112, undef), (113, undef), (114, undef), (115, undef), (116, .bool false), (117, .bool false), (118, undef), (119, undef), (120, undef), (121, undef), (122, undef), (123, undef), (124, undef), (125, undef), (126, .bool false), (127, .bool false), (128, .bool false), (129, .pointer (some ⟨kr, 3, none⟩)), (130, .string r.agg), (131, .bool false), (132, .bool false), (133, undef), (134, undef), (135, undef), (136, undef), (137, undef), (138, undef), (139, undef), (140, undef), (141, undef), (142, undef), (143, .bool false), (144, .bool false)] (by kernel_rfl) (by intro p hp; simp only [List.mem_cons, List.not_mem_nil, or_false] at hp; rcases hp with rfl | rfl | rfl | rfl | rfl | rfl | rfl | rfl | rfl | rfl | rfl | rfl | rfl | rfl | rfl | rfl | rfl | rfl | rfl | rfl | rfl | rfl | rfl | rfl | rfl | rfl | rfl | rfl | rfl | rfl | rfl | rfl | rfl | rfl | rfl | rfl | rfl | rfl | rfl | rfl | rfl | rfl | rfl | rfl | rfl | rfl | rfl | rfl | rfl | rfl | rfl | rfl | rfl | rfl | rfl | rfl | rfl | rfl | rfl | rfl | rfl | rfl | rfl | rfl | rfl | rfl | rfl | rfl | rfl | rfl | rfl | rfl | rfl | rfl | rfl | rfl | rfl | rfl | rfl | rfl | rfl | rfl | rfl <;> assumption)]
         clear hoff hf e0 e1 e2 e3 e4 e5 e6 e7 e8 e9 e10 e11 e12 e13 e14 e15 e16 e17 e18 e19 e20 e21 e22 e23 e24 e25 e26 e27 e28 e29 e30 e31 e32 e33 e34 e35 e36 e37 e38 e39 e40 e41 e42 e43 e44 e45 e46 e47 e48 e49 e50 e51 e52 e53 e54 e55 e56 e57 e58 e59 e60 e61 e62 e63 e64 e65 e66 e67 e68 e69 e70 e71 e72 e73 e74 e75 e76 e77 e78 e79 e80 e81 e82
         simp only [List.foldl_cons, List.foldl_nil, List.setIfInBounds_toArray, List.set_cons_zero, List.set_cons_succ]
         have BZ := Lib.hid (Below.step BN.out hg)
         clear hg
         go_wp2_with fail
         go_roundw
         case rel => exact ⟨k + 1, HKL.out, by have := HKL.out; have := HLN.out; rw [show wrap64 ((k : Int) + 1) = ((k + 1 : Nat) : Int) by unfold wrap64; omega], Below.step hbel.out (Below.step B7.out BZ.out)⟩
         case measure => have := HKL.out; have := HLN.out; rw [show wrap64 ((k : Int) + 1) = ((k + 1 : Nat) : Int) by unfold wrap64; omega]; simp only [intOf]; omega
      ·have ht : (p.to'.toList == []) = true := by rw [nil_of]; exact decide_eq_true (by omega)
       by_cases hdd : p.head = p.from'
       ·have hd : (p.head.toList == p.from'.toList) = true := by rw [hdd]; exact beq_self_eq_true _
        clear hto hdd
        cases hag : (r.agg.toList == []) with
        | true =>
         refine wp_region_factsG (by rfl) 146 (by rfl) (by kernel_rfl) (FA [.e (.pointer (some ⟨kp, 0, none⟩)), .e (.string p.from'), .e (.pointer (some ⟨kp, 1, none⟩)), .e (.string p.to'), .e (.bool false), .e (.bool false), .e (.pointer (some ⟨kr, 2, none⟩)), .e (.slice (some ⟨zb, zo, none⟩) r.args.length xc), .e (.pointer (some ⟨zb, zo, none⟩)), .e (.pointer (some ⟨zb, zo + 1, none⟩)), .e (.string p.head), .e (.pointer (some ⟨kp, 2, none⟩)), .e (.string p.head), .e (.bool false), .e (.bool false), .e (.bool false), .e (.pointer (some ⟨kp, 1, none⟩)), .e (.string p.to'), .e (.bool false), .e (.bool false), .e undef, .e undef, .e undef, .e undef, .e undef, .e undef, .e undef, .e undef, .e undef, .e undef, .e undef, .e undef, .e undef, .e undef, .e undef, .e undef, .e undef, .e undef, .e undef, .e undef, .e undef, .e undef, .e (.bool false), .e (.bool false), .e (.bool false), .e (.pointer (some ⟨kp, 1, none⟩)), .e (.string p.to'), .e (.bool true), .e (.bool true), .e (.pointer (some ⟨kp, 2, none⟩)), .e (.string p.head), .e (.pointer (some ⟨kp, 0, none⟩)), .e (.string p.from'), .e (.bool false), .e (.bool false), .e (.bool false), .e undef, .e undef, .e undef, .e undef, .e undef, .e undef, .e undef, .e undef, .e (.bool false), .e (.bool false), .e (.bool false), .e (.pointer (some ⟨kr, 3, none⟩)), .e (.string r.agg), .e (.bool false), .e (.bool false), .e undef, .e undef, .e undef, .e undef, .e undef, .e undef, .e undef, .e undef, .e undef, .e undef, .e (.bool false), .e (.bool false)]) (fun w' => Below wr.heap.size wr w') (Below.drew (Below.refl _ _)) ⟨?s0, ?s1, ?s2, ?s3, ?s4, ?s5, ?s6, ?s7, ?s8, ?s9, ?s10, ?s11, ?s12, ?s13, ?s14, ?s15, ?s16, ?s17, ?s18, ?s19, ?s20, ?s21, ?s22, ?s23, ?s24, ?s25, ?s26, ?s27, ?s28, ?s29, ?s30, ?s31, ?s32, ?s33, ?s34, ?s35, ?s36, ?s37, ?s38, ?s39, ?s40, ?s41, ?s42, ?s43, ?s44, ?s45, ?s46, ?s47, ?s48, ?s49, ?s50, ?s51, ?s52, ?s53, ?s54, ?s55, ?s56, ?s57, ?s58, ?s59, ?s60, ?s61, ?s62, ?s63, ?s64, ?s65, ?s66, ?s67, ?s68, ?s69, ?s70, ?s71, ?s72, ?s73, ?s74, ?s75, ?s76, ?s77, ?s78, ?s79, ?s80, ?s81, ?s82, trivial⟩ ?fin
         case s0 =>
          intro a w' hoff hg hdep K hK
          have h7 := off_at hoff 7 (v := .pointer (some ⟨kp, 0, none⟩)) (by kernel_rfl) rfl
          rw [if_pos (by rfl)]
          go_simp
          exact hK.out _ _ hg rfl (fun _ _ h => h)
         case s1 =>
          intro a w' hoff hg hdep K hK
          obtain ⟨_, e0, rfl⟩ := hdep 0 _ 62 (by kernel_rfl) rfl rfl
          rw [if_pos (by rfl)]
          obtain ⟨p0, p1, p2⟩ := (X7.out.on (Below.step BN.out hg)).cells
          go_simp
          exact hK.out _ _ hg rfl (fun _ _ h => h)
         case s2 =>
          intro a w' hoff hg hdep K hK
          have h7 := off_at hoff 7 (v := .pointer (some ⟨kp, 0, none⟩)) (by kernel_rfl) rfl
          rw [if_pos (by rfl)]
          go_simp
          exact hK.out _ _ hg rfl (fun _ _ h => h)
         case s3 =>
          intro a w' hoff hg hdep K hK
          obtain ⟨_, e2, rfl⟩ := hdep 2 _ 64 (by kernel_rfl) rfl rfl
          rw [if_pos (by rfl)]
          obtain ⟨p0, p1, p2⟩ := (X7.out.on (Below.step BN.out hg)).cells
          go_simp
          exact hK.out _ _ hg rfl (fun _ _ h => h)
         case s4 =>
          intro a w' hoff hg hdep K hK
          obtain ⟨_, e1, rfl⟩ := hdep 1 _ 63 (by kernel_rfl) rfl rfl
          obtain ⟨_, e3, rfl⟩ := hdep 3 _ 65 (by kernel_rfl) rfl rfl
          rw [if_pos (by rfl)]
          go_simp
          exact hK.out _ _ hg rfl (fun _ _ h => h)
         case s5 =>
          intro a w' hoff hg hdep K hK
          obtain ⟨_, e4, rfl⟩ := hdep 4 _ 66 (by kernel_rfl) rfl rfl
          rw [if_pos (by rfl)]
          go_simp
          exact hK.out _ _ hg rfl (fun _ _ h => h)
         case s6 =>
          intro a w' hoff hg hdep K hK
          have h6 := off_at hoff 6 (v := .pointer (some ⟨kr, 0, none⟩)) (by kernel_rfl) rfl
          obtain ⟨_, e5, rfl⟩ := hdep 5 _ 67 (by kernel_rfl) rfl rfl
          rw [if_pos (by simp [Region.wanted, yielded, e5])]
          go_simp
          exact hK.out _ _ hg rfl (fun _ _ h => h)
         case s7 =>
          intro a w' hoff hg hdep K hK
          obtain ⟨_, e6, rfl⟩ := hdep 6 _ 68 (by kernel_rfl) rfl rfl
          obtain ⟨_, e5, rfl⟩ := hdep 5 _ 67 (by kernel_rfl) rfl rfl
          rw [if_pos (by simp [Region.wanted, yielded, e5])]
          obtain ⟨o0, o1, o2, o3, o4, o5⟩ := (X6.out.on (Below.step BN.out hg)).cells
          go_simp
          exact hK.out _ _ hg rfl (fun _ _ h => h)
         case s8 =>
          intro a w' hoff hg hdep K hK
          obtain ⟨_, e7, rfl⟩ := hdep 7 _ 69 (by kernel_rfl) rfl rfl
          obtain ⟨_, e5, rfl⟩ := hdep 5 _ 67 (by kernel_rfl) rfl rfl
          rw [if_pos (by simp [Region.wanted, yielded, e5])]
          go_simp
          exact hK.out _ _ hg rfl (fun _ _ h => h)
         case s9 =>
          intro a w' hoff hg hdep K hK
          obtain ⟨_, e8, rfl⟩ := hdep 8 _ 70 (by kernel_rfl) rfl rfl
          obtain ⟨_, e5, rfl⟩ := hdep 5 _ 67 (by kernel_rfl) rfl rfl
          rw [if_pos (by simp [Region.wanted, yielded, e5])]
          go_simp
          exact hK.out _ _ hg rfl (fun _ _ h => h)
         case s10 =>
          intro a w' hoff hg hdep K hK
          obtain ⟨_, e9, rfl⟩ := hdep 9 _ 71 (by kernel_rfl) rfl rfl
          obtain ⟨_, e5, rfl⟩ := hdep 5 _ 67 (by kernel_rfl) rfl rfl
          rw [if_pos (by simp [Region.wanted, yielded, e5])]
          have m1 := (hg.cell (p := ⟨zb, zo + 1, none⟩) ZB.out).trans Z1.out
          go_simp
          exact hK.out _ _ hg rfl (fun _ _ h => h)
         case s11 =>
          intro a w' hoff hg hdep K hK
          have h7 := off_at hoff 7 (v := .pointer (some ⟨kp, 0, none⟩)) (by kernel_rfl) rfl
          obtain ⟨_, e5, rfl⟩ := hdep 5 _ 67 (by kernel_rfl) rfl rfl
          rw [if_pos (by simp [Region.wanted, yielded, e5])]
          go_simp
          exact hK.out _ _ hg rfl (fun _ _ h => h)
         case s12 =>
          intro a w' hoff hg hdep K hK
          obtain ⟨_, e11, rfl⟩ := hdep 11 _ 73 (by kernel_rfl) rfl rfl
          obtain ⟨_, e5, rfl⟩ := hdep 5 _ 67 (by kernel_rfl) rfl rfl
          rw [if_pos (by simp [Region.wanted, yielded, e5])]
          obtain ⟨p0, p1, p2⟩ := (X7.out.on (Below.step BN.out hg)).cells
          go_simp
          exact hK.out _ _ hg rfl (fun _ _ h => h)
         case s13 =>
          intro a w' hoff hg hdep K hK
          obtain ⟨_, e10, rfl⟩ := hdep 10 _ 72 (by kernel_rfl) rfl rfl
          obtain ⟨_, e12, rfl⟩ := hdep 12 _ 74 (by kernel_rfl) rfl rfl
          obtain ⟨_, e5, rfl⟩ := hdep 5 _ 67 (by kernel_rfl) rfl rfl
          rw [if_pos (by simp [Region.wanted, yielded, e5])]
          go_simp
          exact hK.out _ _ hg rfl (fun _ _ h => h)
         case s14 =>
          intro a w' hoff hg hdep K hK
          obtain ⟨_, e5, rfl⟩ := hdep 5 _ 67 (by kernel_rfl) rfl rfl
          obtain ⟨_, e13, rfl⟩ := hdep 13 _ 75 (by kernel_rfl) rfl rfl
          rw [if_pos (by rfl)]
          go_simp
          exact hK.out _ _ hg rfl (fun _ _ h => h)
         case s15 =>
          intro a w' hoff hg hdep K hK
          obtain ⟨_, e14, rfl⟩ := hdep 14 _ 76 (by kernel_rfl) rfl rfl
          rw [if_pos (by rfl)]
          go_simp
          exact hK.out _ _ hg rfl (fun _ _ h => h)
         case s16 =>
          intro a w' hoff hg hdep K hK
          have h7 := off_at hoff 7 (v := .pointer (some ⟨kp, 0, none⟩)) (by kernel_rfl) rfl
          obtain ⟨_, e15, rfl⟩ := hdep 15 _ 77 (by kernel_rfl) rfl rfl
          rw [if_pos (by simp [Region.wanted, yielded, e15])]
          go_simp
          exact hK.out _ _ hg rfl (fun _ _ h => h)
         case s17 =>
          intro a w' hoff hg hdep K hK
          obtain ⟨_, e16, rfl⟩ := hdep 16 _ 78 (by kernel_rfl) rfl rfl
          obtain ⟨_, e15, rfl⟩ := hdep 15 _ 77 (by kernel_rfl) rfl rfl
          rw [if_pos (by simp [Region.wanted, yielded, e15])]
          obtain ⟨p0, p1, p2⟩ := (X7.out.on (Below.step BN.out hg)).cells
          go_simp
          exact hK.out _ _ hg rfl (fun _ _ h => h)
         case s18 =>
          intro a w' hoff hg hdep K hK
          obtain ⟨_, e17, rfl⟩ := hdep 17 _ 79 (by kernel_rfl) rfl rfl
          obtain ⟨_, e15, rfl⟩ := hdep 15 _ 77 (by kernel_rfl) rfl rfl
          rw [if_pos (by simp [Region.wanted, yielded, e15])]
          go_simp
          exact hK.out _ _ hg rfl (fun _ _ h => h)
         case s19 =>
          intro a w' hoff hg hdep K hK
          obtain ⟨_, e18, rfl⟩ := hdep 18 _ 80 (by kernel_rfl) rfl rfl
          obtain ⟨_, e15, rfl⟩ := hdep 15 _ 77 (by kernel_rfl) rfl rfl
          rw [if_pos (by simp [Region.wanted, yielded, e15])]
          go_simp
          exact hK.out _ _ hg rfl (fun _ _ h => h)
         case s20 =>
          intro a w' hoff hg hdep K hK
          have h6 := off_at hoff 6 (v := .pointer (some ⟨kr, 0, none⟩)) (by kernel_rfl) rfl
          obtain ⟨_, e19, rfl⟩ := hdep 19 _ 81 (by kernel_rfl) rfl rfl
          rw [if_neg (by simp [Region.wanted, yielded, e19])]
          exact hK.out _ _ hg rfl (fun _ _ h => h)
         case s21 =>
          intro a w' hoff hg hdep K hK
          obtain ⟨v20, e20, f20⟩ := hdep 20 _ 82 (by kernel_rfl) rfl rfl
          obtain rfl : undef = v20 := Eq.symm f20
          obtain ⟨_, e19, rfl⟩ := hdep 19 _ 81 (by kernel_rfl) rfl rfl
          rw [if_neg (by simp [Region.wanted, yielded, e19])]
          exact hK.out _ _ hg rfl (fun _ _ h => h)
         case s22 =>
          intro a w' hoff hg hdep K hK
          have h7 := off_at hoff 7 (v := .pointer (some ⟨kp, 0, none⟩)) (by kernel_rfl) rfl
          obtain ⟨_, e19, rfl⟩ := hdep 19 _ 81 (by kernel_rfl) rfl rfl
          rw [if_neg (by simp [Region.wanted, yielded, e19])]
          exact hK.out _ _ hg rfl (fun _ _ h => h)
         case s23 =>
          intro a w' hoff hg hdep K hK
          obtain ⟨v22, e22, f22⟩ := hdep 22 _ 84 (by kernel_rfl) rfl rfl
          obtain rfl : undef = v22 := Eq.symm f22
          obtain ⟨_, e19, rfl⟩ := hdep 19 _ 81 (by kernel_rfl) rfl rfl
          rw [if_neg (by simp [Region.wanted, yielded, e19])]
          exact hK.out _ _ hg rfl (fun _ _ h => h)
         case s24 =>
          intro a w' hoff hg hdep K hK
          have h7 := off_at hoff 7 (v := .pointer (some ⟨kp, 0, none⟩)) (by kernel_rfl) rfl
          obtain ⟨_, e19, rfl⟩ := hdep 19 _ 81 (by kernel_rfl) rfl rfl
          rw [if_neg (by simp [Region.wanted, yielded, e19])]
          exact hK.out _ _ hg rfl (fun _ _ h => h)
         case s25 =>
          intro a w' hoff hg hdep K hK
          obtain ⟨v24, e24, f24⟩ := hdep 24 _ 86 (by kernel_rfl) rfl rfl
          obtain rfl : undef = v24 := Eq.symm f24
          obtain ⟨_, e19, rfl⟩ := hdep 19 _ 81 (by kernel_rfl) rfl rfl
          rw [if_neg (by simp [Region.wanted, yielded, e19])]
          exact hK.out _ _ hg rfl (fun _ _ h => h)
         case s26 =>
          intro a w' hoff hg hdep K hK
          obtain ⟨v21, e21, f21⟩ := hdep 21 _ 83 (by kernel_rfl) rfl rfl
          obtain rfl : undef = v21 := Eq.symm f21
          obtain ⟨v23, e23, f23⟩ := hdep 23 _ 85 (by kernel_rfl) rfl rfl
          obtain rfl : undef = v23 := Eq.symm f23
          obtain ⟨v25, e25, f25⟩ := hdep 25 _ 87 (by kernel_rfl) rfl rfl
          obtain rfl : undef = v25 := Eq.symm f25
          obtain ⟨_, e19, rfl⟩ := hdep 19 _ 81 (by kernel_rfl) rfl rfl
          rw [if_neg (by simp [Region.wanted, yielded, e19])]
          exact hK.out _ _ hg rfl (fun _ _ h => h)
         case s27 =>
          intro a w' hoff hg hdep K hK
          obtain ⟨v26, e26, f26⟩ := hdep 26 _ 88 (by kernel_rfl) rfl rfl
          obtain rfl : undef = v26 := Eq.symm f26
          obtain ⟨_, e19, rfl⟩ := hdep 19 _ 81 (by kernel_rfl) rfl rfl
          rw [if_neg (by simp [Region.wanted, yielded, e19])]
          exact hK.out _ _ hg rfl (fun _ _ h => h)
         case s28 =>
          intro a w' hoff hg hdep K hK
          obtain ⟨v27, e27, f27⟩ := hdep 27 _ 89 (by kernel_rfl) rfl rfl
          obtain rfl : undef = v27 := Eq.symm f27
          obtain ⟨_, e19, rfl⟩ := hdep 19 _ 81 (by kernel_rfl) rfl rfl
          rw [if_neg (by simp [Region.wanted, yielded, e19])]
          exact hK.out _ _ hg rfl (fun _ _ h => h)
         case s29 =>
          intro a w' hoff hg hdep K hK
          have h7 := off_at hoff 7 (v := .pointer (some ⟨kp, 0, none⟩)) (by kernel_rfl) rfl
          obtain ⟨v28, e28, f28⟩ := hdep 28 _ 90 (by kernel_rfl) rfl rfl
          obtain rfl : undef = v28 := Eq.symm f28
          rw [if_neg (by simp [Region.wanted, yielded, e28, undef])]
          exact hK.out _ _ hg rfl (fun _ _ h => h)
         case s30 =>
          intro a w' hoff hg hdep K hK
          obtain ⟨v29, e29, f29⟩ := hdep 29 _ 91 (by kernel_rfl) rfl rfl
          obtain rfl : undef = v29 := Eq.symm f29
          obtain ⟨v28, e28, f28⟩ := hdep 28 _ 90 (by kernel_rfl) rfl rfl
          obtain rfl : undef = v28 := Eq.symm f28
          rw [if_neg (by simp [Region.wanted, yielded, e28, undef])]
          exact hK.out _ _ hg rfl (fun _ _ h => h)
         case s31 =>
          intro a w' hoff hg hdep K hK
          have h7 := off_at hoff 7 (v := .pointer (some ⟨kp, 0, none⟩)) (by kernel_rfl) rfl
          obtain ⟨v28, e28, f28⟩ := hdep 28 _ 90 (by kernel_rfl) rfl rfl
          obtain rfl : undef = v28 := Eq.symm f28
          rw [if_neg (by simp [Region.wanted, yielded, e28, undef])]
          exact hK.out _ _ hg rfl (fun _ _ h => h)
         case s32 =>
          intro a w' hoff hg hdep K hK
          obtain ⟨v31, e31, f31⟩ := hdep 31 _ 93 (by kernel_rfl) rfl rfl
          obtain rfl : undef = v31 := Eq.symm f31
          obtain ⟨v28, e28, f28⟩ := hdep 28 _ 90 (by kernel_rfl) rfl rfl
          obtain rfl : undef = v28 := Eq.symm f28
          rw [if_neg (by simp [Region.wanted, yielded, e28, undef])]
          exact hK.out _ _ hg rfl (fun _ _ h => h)
         case s33 =>
          intro a w' hoff hg hdep K hK
          obtain ⟨v30, e30, f30⟩ := hdep 30 _ 92 (by kernel_rfl) rfl rfl
          obtain rfl : undef = v30 := Eq.symm f30
          obtain ⟨v32, e32, f32⟩ := hdep 32 _ 94 (by kernel_rfl) rfl rfl
          obtain rfl : undef = v32 := Eq.symm f32
          obtain ⟨v28, e28, f28⟩ := hdep 28 _ 90 (by kernel_rfl) rfl rfl
          obtain rfl : undef = v28 := Eq.symm f28
          rw [if_neg (by simp [Region.wanted, yielded, e28, undef])]
          exact hK.out _ _ hg rfl (fun _ _ h => h)
         case s34 =>
          intro a w' hoff hg hdep K hK
          obtain ⟨v33, e33, f33⟩ := hdep 33 _ 95 (by kernel_rfl) rfl rfl
          obtain rfl : undef = v33 := Eq.symm f33
          obtain ⟨v28, e28, f28⟩ := hdep 28 _ 90 (by kernel_rfl) rfl rfl
          obtain rfl : undef = v28 := Eq.symm f28
          rw [if_neg (by simp [Region.wanted, yielded, e28, undef])]
          exact hK.out _ _ hg rfl (fun _ _ h => h)
         case s35 =>
          intro a w' hoff hg hdep K hK
          have h7 := off_at hoff 7 (v := .pointer (some ⟨kp, 0, none⟩)) (by kernel_rfl) rfl
          obtain ⟨v34, e34, f34⟩ := hdep 34 _ 96 (by kernel_rfl) rfl rfl
          obtain rfl : undef = v34 := Eq.symm f34
          rw [if_neg (by simp [Region.wanted, yielded, e34, undef])]
          exact hK.out _ _ hg rfl (fun _ _ h => h)
         case s36 =>
          intro a w' hoff hg hdep K hK
          obtain ⟨v35, e35, f35⟩ := hdep 35 _ 97 (by kernel_rfl) rfl rfl
          obtain rfl : undef = v35 := Eq.symm f35
          obtain ⟨v34, e34, f34⟩ := hdep 34 _ 96 (by kernel_rfl) rfl rfl
          obtain rfl : undef = v34 := Eq.symm f34
          rw [if_neg (by simp [Region.wanted, yielded, e34, undef])]
          exact hK.out _ _ hg rfl (fun _ _ h => h)
         case s37 =>
          intro a w' hoff hg hdep K hK
          have h7 := off_at hoff 7 (v := .pointer (some ⟨kp, 0, none⟩)) (by kernel_rfl) rfl
          obtain ⟨v34, e34, f34⟩ := hdep 34 _ 96 (by kernel_rfl) rfl rfl
          obtain rfl : undef = v34 := Eq.symm f34
          rw [if_neg (by simp [Region.wanted, yielded, e34, undef])]
          exact hK.out _ _ hg rfl (fun _ _ h => h)
         case s38 =>
          intro a w' hoff hg hdep K hK
          obtain ⟨v37, e37, f37⟩ := hdep 37 _ 99 (by kernel_rfl) rfl rfl
          obtain rfl : undef = v37 := Eq.symm f37
          obtain ⟨v34, e34, f34⟩ := hdep 34 _ 96 (by kernel_rfl) rfl rfl
          obtain rfl : undef = v34 := Eq.symm f34
          rw [if_neg (by simp [Region.wanted, yielded, e34, undef])]
          exact hK.out _ _ hg rfl (fun _ _ h => h)
         case s39 =>
          intro a w' hoff hg hdep K hK
          obtain ⟨v36, e36, f36⟩ := hdep 36 _ 98 (by kernel_rfl) rfl rfl
          obtain rfl : undef = v36 := Eq.symm f36
          obtain ⟨v38, e38, f38⟩ := hdep 38 _ 100 (by kernel_rfl) rfl rfl
          obtain rfl : undef = v38 := Eq.symm f38
          obtain ⟨v34, e34, f34⟩ := hdep 34 _ 96 (by kernel_rfl) rfl rfl
          obtain rfl : undef = v34 := Eq.symm f34
          rw [if_neg (by simp [Region.wanted, yielded, e34, undef])]
          exact hK.out _ _ hg rfl (fun _ _ h => h)
         case s40 =>
          intro a w' hoff hg hdep K hK
          obtain ⟨v34, e34, f34⟩ := hdep 34 _ 96 (by kernel_rfl) rfl rfl
          obtain rfl : undef = v34 := Eq.symm f34
          obtain ⟨v39, e39, f39⟩ := hdep 39 _ 101 (by kernel_rfl) rfl rfl
          obtain rfl : undef = v39 := Eq.symm f39
          obtain ⟨v28, e28, f28⟩ := hdep 28 _ 90 (by kernel_rfl) rfl rfl
          obtain rfl : undef = v28 := Eq.symm f28
          rw [if_neg (by simp [Region.wanted, yielded, e28, undef])]
          exact hK.out _ _ hg rfl (fun _ _ h => h)
         case s41 =>
          intro a w' hoff hg hdep K hK
          obtain ⟨v28, e28, f28⟩ := hdep 28 _ 90 (by kernel_rfl) rfl rfl
          obtain rfl : undef = v28 := Eq.symm f28
          obtain ⟨v40, e40, f40⟩ := hdep 40 _ 102 (by kernel_rfl) rfl rfl
          obtain rfl : undef = v40 := Eq.symm f40
          obtain ⟨_, e19, rfl⟩ := hdep 19 _ 81 (by kernel_rfl) rfl rfl
          rw [if_neg (by simp [Region.wanted, yielded, e19])]
          exact hK.out _ _ hg rfl (fun _ _ h => h)
         case s42 =>
          intro a w' hoff hg hdep K hK
          obtain ⟨_, e19, rfl⟩ := hdep 19 _ 81 (by kernel_rfl) rfl rfl
          obtain ⟨v41, e41, f41⟩ := hdep 41 _ 103 (by kernel_rfl) rfl rfl
          obtain rfl : undef = v41 := Eq.symm f41
          obtain ⟨_, e15, rfl⟩ := hdep 15 _ 77 (by kernel_rfl) rfl rfl
          rw [if_pos (by simp [Region.wanted, yielded, e15])]
          go_simp
          exact hK.out _ _ hg rfl (fun _ _ h => h)
         case s43 =>
          intro a w' hoff hg hdep K hK
          obtain ⟨_, e15, rfl⟩ := hdep 15 _ 77 (by kernel_rfl) rfl rfl
          obtain ⟨_, e42, rfl⟩ := hdep 42 _ 104 (by kernel_rfl) rfl rfl
          rw [if_pos (by rfl)]
          go_simp
          exact hK.out _ _ hg rfl (fun _ _ h => h)
         case s44 =>
          intro a w' hoff hg hdep K hK
          obtain ⟨_, e43, rfl⟩ := hdep 43 _ 105 (by kernel_rfl) rfl rfl
          rw [if_pos (by rfl)]
          go_simp
          exact hK.out _ _ hg rfl (fun _ _ h => h)
         case s45 =>
          intro a w' hoff hg hdep K hK
          have h7 := off_at hoff 7 (v := .pointer (some ⟨kp, 0, none⟩)) (by kernel_rfl) rfl
          obtain ⟨_, e44, rfl⟩ := hdep 44 _ 106 (by kernel_rfl) rfl rfl
          rw [if_pos (by simp [Region.wanted, yielded, e44])]
          go_simp
          exact hK.out _ _ hg rfl (fun _ _ h => h)
         case s46 =>
          intro a w' hoff hg hdep K hK
          obtain ⟨_, e45, rfl⟩ := hdep 45 _ 107 (by kernel_rfl) rfl rfl
          obtain ⟨_, e44, rfl⟩ := hdep 44 _ 106 (by kernel_rfl) rfl rfl
          rw [if_pos (by simp [Region.wanted, yielded, e44])]
          obtain ⟨p0, p1, p2⟩ := (X7.out.on (Below.step BN.out hg)).cells
          go_simp
          exact hK.out _ _ hg rfl (fun _ _ h => h)
         case s47 =>
          intro a w' hoff hg hdep K hK
          obtain ⟨_, e46, rfl⟩ := hdep 46 _ 108 (by kernel_rfl) rfl rfl
          obtain ⟨_, e44, rfl⟩ := hdep 44 _ 106 (by kernel_rfl) rfl rfl
          rw [if_pos (by simp [Region.wanted, yielded, e44])]
          go_simp
          exact hK.out _ _ hg rfl (fun _ _ h => h)
         case s48 =>
          intro a w' hoff hg hdep K hK
          obtain ⟨_, e47, rfl⟩ := hdep 47 _ 109 (by kernel_rfl) rfl rfl
          obtain ⟨_, e44, rfl⟩ := hdep 44 _ 106 (by kernel_rfl) rfl rfl
          rw [if_pos (by simp [Region.wanted, yielded, e44])]
          go_simp
          exact hK.out _ _ hg rfl (fun _ _ h => h)
         case s49 =>
          intro a w' hoff hg hdep K hK
          have h7 := off_at hoff 7 (v := .pointer (some ⟨kp, 0, none⟩)) (by kernel_rfl) rfl
          obtain ⟨_, e48, rfl⟩ := hdep 48 _ 110 (by kernel_rfl) rfl rfl
          rw [if_pos (by simp [Region.wanted, yielded, e48])]
          go_simp
          exact hK.out _ _ hg rfl (fun _ _ h => h)
         case s50 =>
          intro a w' hoff hg hdep K hK
          obtain ⟨_, e49, rfl⟩ := hdep 49 _ 111 (by kernel_rfl) rfl rfl
          obtain ⟨_, e48, rfl⟩ := hdep 48 _ 110 (by kernel_rfl) rfl rfl
          rw [if_pos (by simp [Region.wanted, yielded, e48])]
          obtain ⟨p0, p1, p2⟩ := (X7.out.on (Below.step BN.out hg)).cells
          go_simp
          exact hK.out _ _ hg rfl (fun _ _ h => h)
         case s51 =>
          intro a w' hoff hg hdep K hK
          have h7 := off_at hoff 7 (v := .pointer (some ⟨kp, 0, none⟩)) (by kernel_rfl) rfl
          obtain ⟨_, e48, rfl⟩ := hdep 48 _ 110 (by kernel_rfl) rfl rfl
          rw [if_pos (by simp [Region.wanted, yielded, e48])]
          go_simp
          exact hK.out _ _ hg rfl (fun _ _ h => h)
         case s52 =>
          intro a w' hoff hg hdep K hK
          obtain ⟨_, e51, rfl⟩ := hdep 51 _ 113 (by kernel_rfl) rfl rfl
          obtain ⟨_, e48, rfl⟩ := hdep 48 _ 110 (by kernel_rfl) rfl rfl
          rw [if_pos (by simp [Region.wanted, yielded, e48])]
          obtain ⟨p0, p1, p2⟩ := (X7.out.on (Below.step BN.out hg)).cells
          go_simp
          exact hK.out _ _ hg rfl (fun _ _ h => h)
         case s53 =>
          intro a w' hoff hg hdep K hK
          obtain ⟨_, e50, rfl⟩ := hdep 50 _ 112 (by kernel_rfl) rfl rfl
          obtain ⟨_, e52, rfl⟩ := hdep 52 _ 114 (by kernel_rfl) rfl rfl
          obtain ⟨_, e48, rfl⟩ := hdep 48 _ 110 (by kernel_rfl) rfl rfl
          rw [if_pos (by simp [Region.wanted, yielded, e48])]
          go_simp
          exact hK.out _ _ hg rfl (fun _ _ h => h)
         case s54 =>
          intro a w' hoff hg hdep K hK
          obtain ⟨_, e48, rfl⟩ := hdep 48 _ 110 (by kernel_rfl) rfl rfl
          obtain ⟨_, e53, rfl⟩ := hdep 53 _ 115 (by kernel_rfl) rfl rfl
          obtain ⟨_, e44, rfl⟩ := hdep 44 _ 106 (by kernel_rfl) rfl rfl
          rw [if_pos (by simp [Region.wanted, yielded, e44])]
          go_simp
          exact hK.out _ _ hg rfl (fun _ _ h => h)
         case s55 =>
          intro a w' hoff hg hdep K hK
          obtain ⟨_, e54, rfl⟩ := hdep 54 _ 116 (by kernel_rfl) rfl rfl
          obtain ⟨_, e44, rfl⟩ := hdep 44 _ 106 (by kernel_rfl) rfl rfl
          rw [if_pos (by simp [Region.wanted, yielded, e44])]
          go_simp
          exact hK.out _ _ hg rfl (fun _ _ h => h)
         case s56 =>
          intro a w' hoff hg hdep K hK
          have h6 := off_at hoff 6 (v := .pointer (some ⟨kr, 0, none⟩)) (by kernel_rfl) rfl
          obtain ⟨_, e55, rfl⟩ := hdep 55 _ 117 (by kernel_rfl) rfl rfl
          rw [if_neg (by simp [Region.wanted, yielded, e55])]
          exact hK.out _ _ hg rfl (fun _ _ h => h)
         case s57 =>
          intro a w' hoff hg hdep K hK
          obtain ⟨v56, e56, f56⟩ := hdep 56 _ 118 (by kernel_rfl) rfl rfl
          obtain rfl : undef = v56 := Eq.symm f56
          obtain ⟨_, e55, rfl⟩ := hdep 55 _ 117 (by kernel_rfl) rfl rfl
          rw [if_neg (by simp [Region.wanted, yielded, e55])]
          exact hK.out _ _ hg rfl (fun _ _ h => h)
         case s58 =>
          intro a w' hoff hg hdep K hK
          have h7 := off_at hoff 7 (v := .pointer (some ⟨kp, 0, none⟩)) (by kernel_rfl) rfl
          obtain ⟨_, e55, rfl⟩ := hdep 55 _ 117 (by kernel_rfl) rfl rfl
          rw [if_neg (by simp [Region.wanted, yielded, e55])]
          exact hK.out _ _ hg rfl (fun _ _ h => h)
         case s59 =>
          intro a w' hoff hg hdep K hK
          obtain ⟨v58, e58, f58⟩ := hdep 58 _ 120 (by kernel_rfl) rfl rfl
          obtain rfl : undef = v58 := Eq.symm f58
          obtain ⟨_, e55, rfl⟩ := hdep 55 _ 117 (by kernel_rfl) rfl rfl
          rw [if_neg (by simp [Region.wanted, yielded, e55])]
          exact hK.out _ _ hg rfl (fun _ _ h => h)
         case s60 =>
          intro a w' hoff hg hdep K hK
          have h7 := off_at hoff 7 (v := .pointer (some ⟨kp, 0, none⟩)) (by kernel_rfl) rfl
          obtain ⟨_, e55, rfl⟩ := hdep 55 _ 117 (by kernel_rfl) rfl rfl
          rw [if_neg (by simp [Region.wanted, yielded, e55])]
          exact hK.out _ _ hg rfl (fun _ _ h => h)
         case s61 =>
          intro a w' hoff hg hdep K hK
          obtain ⟨v60, e60, f60⟩ := hdep 60 _ 122 (by kernel_rfl) rfl rfl
          obtain rfl : undef = v60 := Eq.symm f60
          obtain ⟨_, e55, rfl⟩ := hdep 55 _ 117 (by kernel_rfl) rfl rfl
          rw [if_neg (by simp [Region.wanted, yielded, e55])]
          exact hK.out _ _ hg rfl (fun _ _ h => h)
         case s62 =>
          intro a w' hoff hg hdep K hK
          obtain ⟨v57, e57, f57⟩ := hdep 57 _ 119 (by kernel_rfl) rfl rfl
          obtain rfl : undef = v57 := Eq.symm f57
          obtain ⟨v59, e59, f59⟩ := hdep 59 _ 121 (by kernel_rfl) rfl rfl
          obtain rfl : undef = v59 := Eq.symm f59
          obtain ⟨v61, e61, f61⟩ := hdep 61 _ 123 (by kernel_rfl) rfl rfl
          obtain rfl : undef = v61 := Eq.symm f61
          obtain ⟨_, e55, rfl⟩ := hdep 55 _ 117 (by kernel_rfl) rfl rfl
          rw [if_neg (by simp [Region.wanted, yielded, e55])]
          exact hK.out _ _ hg rfl (fun _ _ h => h)
         case s63 =>
          intro a w' hoff hg hdep K hK
          obtain ⟨v62, e62, f62⟩ := hdep 62 _ 124 (by kernel_rfl) rfl rfl
          obtain rfl : undef = v62 := Eq.symm f62
          obtain ⟨_, e55, rfl⟩ := hdep 55 _ 117 (by kernel_rfl) rfl rfl
          rw [if_neg (by simp [Region.wanted, yielded, e55])]
          exact hK.out _ _ hg rfl (fun _ _ h => h)
         case s64 =>
          intro a w' hoff hg hdep K hK
          obtain ⟨_, e55, rfl⟩ := hdep 55 _ 117 (by kernel_rfl) rfl rfl
          obtain ⟨v63, e63, f63⟩ := hdep 63 _ 125 (by kernel_rfl) rfl rfl
          obtain rfl : undef = v63 := Eq.symm f63
          obtain ⟨_, e44, rfl⟩ := hdep 44 _ 106 (by kernel_rfl) rfl rfl
          rw [if_pos (by simp [Region.wanted, yielded, e44])]
          go_simp
          exact hK.out _ _ hg rfl (fun _ _ h => h)
         case s65 =>
          intro a w' hoff hg hdep K hK
          obtain ⟨_, e44, rfl⟩ := hdep 44 _ 106 (by kernel_rfl) rfl rfl
          obtain ⟨_, e64, rfl⟩ := hdep 64 _ 126 (by kernel_rfl) rfl rfl
          rw [if_pos (by rfl)]
          go_simp
          exact hK.out _ _ hg rfl (fun _ _ h => h)
         case s66 =>
          intro a w' hoff hg hdep K hK
          obtain ⟨_, e65, rfl⟩ := hdep 65 _ 127 (by kernel_rfl) rfl rfl
          rw [if_pos (by rfl)]
          go_simp
          exact hK.out _ _ hg rfl (fun _ _ h => h)
         case s67 =>
          intro a w' hoff hg hdep K hK
          have h6 := off_at hoff 6 (v := .pointer (some ⟨kr, 0, none⟩)) (by kernel_rfl) rfl
          obtain ⟨_, e66, rfl⟩ := hdep 66 _ 128 (by kernel_rfl) rfl rfl
          rw [if_pos (by simp [Region.wanted, yielded, e66])]
          go_simp
          exact hK.out _ _ hg rfl (fun _ _ h => h)
         case s68 =>
          intro a w' hoff hg hdep K hK
          obtain ⟨_, e67, rfl⟩ := hdep 67 _ 129 (by kernel_rfl) rfl rfl
          obtain ⟨_, e66, rfl⟩ := hdep 66 _ 128 (by kernel_rfl) rfl rfl
          rw [if_pos (by simp [Region.wanted, yielded, e66])]
          obtain ⟨o0, o1, o2, o3, o4, o5⟩ := (X6.out.on (Below.step BN.out hg)).cells
          go_simp
          exact hK.out _ _ hg rfl (fun _ _ h => h)
         case s69 =>
          intro a w' hoff hg hdep K hK
          obtain ⟨_, e68, rfl⟩ := hdep 68 _ 130 (by kernel_rfl) rfl rfl
          obtain ⟨_, e66, rfl⟩ := hdep 66 _ 128 (by kernel_rfl) rfl rfl
          rw [if_pos (by simp [Region.wanted, yielded, e66])]
          go_simp
          exact hK.out _ _ hg rfl (fun _ _ h => h)
         case s70 =>
          intro a w' hoff hg hdep K hK
          obtain ⟨_, e69, rfl⟩ := hdep 69 _ 131 (by kernel_rfl) rfl rfl
          obtain ⟨_, e66, rfl⟩ := hdep 66 _ 128 (by kernel_rfl) rfl rfl
          rw [if_pos (by simp [Region.wanted, yielded, e66])]
          go_simp
          exact hK.out _ _ hg rfl (fun _ _ h => h)
         case s71 =>
          intro a w' hoff hg hdep K hK
          have h7 := off_at hoff 7 (v := .pointer (some ⟨kp, 0, none⟩)) (by kernel_rfl) rfl
          obtain ⟨_, e70, rfl⟩ := hdep 70 _ 132 (by kernel_rfl) rfl rfl
          rw [if_neg (by simp [Region.wanted, yielded, e70])]
          exact hK.out _ _ hg rfl (fun _ _ h => h)
         case s72 =>
          intro a w' hoff hg hdep K hK
          obtain ⟨v71, e71, f71⟩ := hdep 71 _ 133 (by kernel_rfl) rfl rfl
          obtain rfl : undef = v71 := Eq.symm f71
          obtain ⟨_, e70, rfl⟩ := hdep 70 _ 132 (by kernel_rfl) rfl rfl
          rw [if_neg (by simp [Region.wanted, yielded, e70])]
          exact hK.out _ _ hg rfl (fun _ _ h => h)
         case s73 =>
          intro a w' hoff hg hdep K hK
          obtain ⟨v72, e72, f72⟩ := hdep 72 _ 134 (by kernel_rfl) rfl rfl
          obtain rfl : undef = v72 := Eq.symm f72
          obtain ⟨_, e70, rfl⟩ := hdep 70 _ 132 (by kernel_rfl) rfl rfl
          rw [if_neg (by simp [Region.wanted, yielded, e70])]
          exact hK.out _ _ hg rfl (fun _ _ h => h)
         case s74 =>
          intro a w' hoff hg hdep K hK
          obtain ⟨v73, e73, f73⟩ := hdep 73 _ 135 (by kernel_rfl) rfl rfl
          obtain rfl : undef = v73 := Eq.symm f73
          obtain ⟨_, e70, rfl⟩ := hdep 70 _ 132 (by kernel_rfl) rfl rfl
          rw [if_neg (by simp [Region.wanted, yielded, e70])]
          exact hK.out _ _ hg rfl (fun _ _ h => h)
         case s75 =>
          intro a w' hoff hg hdep K hK
          have h7 := off_at hoff 7 (v := .pointer (some ⟨kp, 0, none⟩)) (by kernel_rfl) rfl
          obtain ⟨v74, e74, f74⟩ := hdep 74 _ 136 (by kernel_rfl) rfl rfl
          obtain rfl : undef = v74 := Eq.symm f74
          rw [if_neg (by simp [Region.wanted, yielded, e74, undef])]
          exact hK.out _ _ hg rfl (fun _ _ h => h)
         case s76 =>
          intro a w' hoff hg hdep K hK
          obtain ⟨v75, e75, f75⟩ := hdep 75 _ 137 (by kernel_rfl) rfl rfl
          obtain rfl : undef = v75 := Eq.symm f75
          obtain ⟨v74, e74, f74⟩ := hdep 74 _ 136 (by kernel_rfl) rfl rfl
          obtain rfl : undef = v74 := Eq.symm f74
          rw [if_neg (by simp [Region.wanted, yielded, e74, undef])]
          exact hK.out _ _ hg rfl (fun _ _ h => h)
         case s77 =>
          intro a w' hoff hg hdep K hK
          have h7 := off_at hoff 7 (v := .pointer (some ⟨kp, 0, none⟩)) (by kernel_rfl) rfl
          obtain ⟨v74, e74, f74⟩ := hdep 74 _ 136 (by kernel_rfl) rfl rfl
          obtain rfl : undef = v74 := Eq.symm f74
          rw [if_neg (by simp [Region.wanted, yielded, e74, undef])]
          exact hK.out _ _ hg rfl (fun _ _ h => h)
         case s78 =>
          intro a w' hoff hg hdep K hK
          obtain ⟨v77, e77, f77⟩ := hdep 77 _ 139 (by kernel_rfl) rfl rfl
          obtain rfl : undef = v77 := Eq.symm f77
          obtain ⟨v74, e74, f74⟩ := hdep 74 _ 136 (by kernel_rfl) rfl rfl
          obtain rfl : undef = v74 := Eq.symm f74
          rw [if_neg (by simp [Region.wanted, yielded, e74, undef])]
          exact hK.out _ _ hg rfl (fun _ _ h => h)
         case s79 =>
          intro a w' hoff hg hdep K hK
          obtain ⟨v76, e76, f76⟩ := hdep 76 _ 138 (by kernel_rfl) rfl rfl
          obtain rfl : undef = v76 := Eq.symm f76
          obtain ⟨v78, e78, f78⟩ := hdep 78 _ 140 (by kernel_rfl) rfl rfl
          obtain rfl : undef = v78 := Eq.symm f78
          obtain ⟨v74, e74, f74⟩ := hdep 74 _ 136 (by kernel_rfl) rfl rfl
          obtain rfl : undef = v74 := Eq.symm f74
          rw [if_neg (by simp [Region.wanted, yielded, e74, undef])]
          exact hK.out _ _ hg rfl (fun _ _ h => h)
         case s80 =>
          intro a w' hoff hg hdep K hK
          obtain ⟨v74, e74, f74⟩ := hdep 74 _ 136 (by kernel_rfl) rfl rfl
          obtain rfl : undef = v74 := Eq.symm f74
          obtain ⟨v79, e79, f79⟩ := hdep 79 _ 141 (by kernel_rfl) rfl rfl
          obtain rfl : undef = v79 := Eq.symm f79
          obtain ⟨_, e70, rfl⟩ := hdep 70 _ 132 (by kernel_rfl) rfl rfl
          rw [if_neg (by simp [Region.wanted, yielded, e70])]
          exact hK.out _ _ hg rfl (fun _ _ h => h)
         case s81 =>
          intro a w' hoff hg hdep K hK
          obtain ⟨_, e70, rfl⟩ := hdep 70 _ 132 (by kernel_rfl) rfl rfl
          obtain ⟨v80, e80, f80⟩ := hdep 80 _ 142 (by kernel_rfl) rfl rfl
          obtain rfl : undef = v80 := Eq.symm f80
          obtain ⟨_, e66, rfl⟩ := hdep 66 _ 128 (by kernel_rfl) rfl rfl
          rw [if_pos (by simp [Region.wanted, yielded, e66])]
          go_simp
          exact hK.out _ _ hg rfl (fun _ _ h => h)
         case s82 =>
          intro a w' hoff hg hdep K hK
          obtain ⟨_, e66, rfl⟩ := hdep 66 _ 128 (by kernel_rfl) rfl rfl
          obtain ⟨_, e81, rfl⟩ := hdep 81 _ 143 (by kernel_rfl) rfl rfl
          rw [if_pos (by rfl)]
          go_simp
          exact hK.out _ _ hg rfl (fun _ _ h => h)
         case fin =>
          intro a w' hoff hg hf
          obtain ⟨_, e0, rfl⟩ := hf 0 _ 62 rfl rfl
          obtain ⟨_, e1, rfl⟩ := hf 1 _ 63 rfl rfl
          obtain ⟨_, e2, rfl⟩ := hf 2 _ 64 rfl rfl
          obtain ⟨_, e3, rfl⟩ := hf 3 _ 65 rfl rfl
          obtain ⟨_, e4, rfl⟩ := hf 4 _ 66 rfl rfl
          obtain ⟨_, e5, rfl⟩ := hf 5 _ 67 rfl rfl
          obtain ⟨_, e6, rfl⟩ := hf 6 _ 68 rfl rfl
          obtain ⟨_, e7, rfl⟩ := hf 7 _ 69 rfl rfl
          obtain ⟨_, e8, rfl⟩ := hf 8 _ 70 rfl rfl
          obtain ⟨_, e9, rfl⟩ := hf 9 _ 71 rfl rfl
          obtain ⟨_, e10, rfl⟩ := hf 10 _ 72 rfl rfl
          obtain ⟨_, e11, rfl⟩ := hf 11 _ 73 rfl rfl
          obtain ⟨_, e12, rfl⟩ := hf 12 _ 74 rfl rfl
          obtain ⟨_, e13, rfl⟩ := hf 13 _ 75 rfl rfl
          obtain ⟨_, e14, rfl⟩ := hf 14 _ 76 rfl rfl
          obtain ⟨_, e15, rfl⟩ := hf 15 _ 77 rfl rfl
          obtain ⟨_, e16, rfl⟩ := hf 16 _ 78 rfl rfl
          obtain ⟨_, e17, rfl⟩ := hf 17 _ 79 rfl rfl
          obtain ⟨_, e18, rfl⟩ := hf 18 _ 80 rfl rfl
          obtain ⟨_, e19, rfl⟩ := hf 19 _ 81 rfl rfl
          obtain ⟨v20, e20, f20⟩ := hf 20 _ 82 rfl rfl
          obtain rfl : undef = v20 := Eq.symm f20
          obtain ⟨v21, e21, f21⟩ := hf 21 _ 83 rfl rfl
          obtain rfl : undef = v21 := Eq.symm f21
          obtain ⟨v22, e22, f22⟩ := hf 22 _ 84 rfl rfl
          obtain rfl : undef = v22 := Eq.symm f22
          obtain ⟨v23, e23, f23⟩ := hf 23 _ 85 rfl rfl
          obtain rfl : undef = v23 := Eq.symm f23
          obtain ⟨v24, e24, f24⟩ := hf 24 _ 86 rfl rfl
          obtain rfl : undef = v24 := Eq.symm f24
          obtain ⟨v25, e25, f25⟩ := hf 25 _ 87 rfl rfl
          obtain rfl : undef = v25 := Eq.symm f25
          obtain ⟨v26, e26, f26⟩ := hf 26 _ 88 rfl rfl
          obtain rfl : undef = v26 := Eq.symm f26
          obtain ⟨v27, e27, f27⟩ := hf 27 _ 89 rfl rfl
          obtain rfl : undef = v27 := Eq.symm f27
          obtain ⟨v28, e28, f28⟩ := hf 28 _ 90 rfl rfl
          obtain rfl : undef = v28 := Eq.symm f28
          obtain ⟨v29, e29, f29⟩ := hf 29 _ 91 rfl rfl
          obtain rfl : undef = v29 := Eq.symm f29
          obtain ⟨v30, e30, f30⟩ := hf 30 _ 92 rfl rfl
          obtain rfl : undef = v30 := Eq.symm f30
          obtain ⟨v31, e31, f31⟩ := hf 31 _ 93 rfl rfl
          obtain rfl : undef = v31 := Eq.symm f31
          obtain ⟨v32, e32, f32⟩ := hf 32 _ 94 rfl rfl
          obtain rfl : undef = v32 := Eq.symm f32
          obtain ⟨v33, e33, f33⟩ := hf 33 _ 95 rfl rfl
          obtain rfl : undef = v33 := Eq.symm f33
          obtain ⟨v34, e34, f34⟩ := hf 34 _ 96 rfl rfl
          obtain rfl : undef = v34 := Eq.symm f34
          obtain ⟨v35, e35, f35⟩ := hf 35 _ 97 rfl rfl
          obtain rfl : undef = v35 := Eq.symm f35
          obtain ⟨v36, e36, f36⟩ := hf 36 _ 98 rfl rfl
          obtain rfl : undef = v36 := Eq.symm f36
          obtain ⟨v37, e37, f37⟩ := hf 37 _ 99 rfl rfl
          obtain rfl : undef = v37 := Eq.symm f37
          obtain ⟨v38, e38, f38⟩ := hf 38 _ 100 rfl rfl
          obtain rfl : undef = v38 := Eq.symm f38
          obtain ⟨v39, e39, f39⟩ := hf 39 _ 101 rfl rfl
          obtain rfl : undef = v39 := Eq.symm f39
          obtain ⟨v40, e40, f40⟩ := hf 40 _ 102 rfl rfl
          obtain rfl : undef = v40 := Eq.symm f40
          obtain ⟨v41, e41, f41⟩ := hf 41 _ 103 rfl rfl
          obtain rfl : undef = v41 := Eq.symm f41
          obtain ⟨_, e42, rfl⟩ := hf 42 _ 104 rfl rfl
          obtain ⟨_, e43, rfl⟩ := hf 43 _ 105 rfl rfl
          obtain ⟨_, e44, rfl⟩ := hf 44 _ 106 rfl rfl
          obtain ⟨_, e45, rfl⟩ := hf 45 _ 107 rfl rfl
          obtain ⟨_, e46, rfl⟩ := hf 46 _ 108 rfl rfl
          obtain ⟨_, e47, rfl⟩ := hf 47 _ 109 rfl rfl
          obtain ⟨_, e48, rfl⟩ := hf 48 _ 110 rfl rfl
          obtain ⟨_, e49, rfl⟩ := hf 49 _ 111 rfl rfl
          obtain ⟨_, e50, rfl⟩ := hf 50 _ 112 rfl rfl
          obtain ⟨_, e51, rfl⟩ := hf 51 _ 113 rfl rfl
          obtain ⟨_, e52, rfl⟩ := hf 52 _ 114 rfl rfl
          obtain ⟨_, e53, rfl⟩ := hf 53 _ 115 rfl rfl
          obtain ⟨_, e54, rfl⟩ := hf 54 _ 116 rfl rfl
          obtain ⟨_, e55, rfl⟩ := hf 55 _ 117 rfl rfl
          obtain ⟨v56, e56, f56⟩ := hf 56 _ 118 rfl rfl
          obtain rfl : undef = v56 := Eq.symm f56
          obtain ⟨v57, e57, f57⟩ := hf 57 _ 119 rfl rfl
          obtain rfl : undef = v57 := Eq.symm f57
          obtain ⟨v58, e58, f58⟩ := hf 58 _ 120 rfl rfl
          obtain rfl : undef = v58 := Eq.symm f58
          obtain ⟨v59, e59, f59⟩ := hf 59 _ 121 rfl rfl
          obtain rfl : undef = v59 := Eq.symm f59
          obtain ⟨v60, e60, f60⟩ := hf 60 _ 122 rfl rfl
          obtain rfl : undef = v60 := Eq.symm f60
          obtain ⟨v61, e61, f61⟩ := hf 61 _ 123 rfl rfl
          obtain rfl : undef = v61 := Eq.symm f61
          obtain ⟨v62, e62, f62⟩ := hf 62 _ 124 rfl rfl
          obtain rfl : undef = v62 := Eq.symm f62
          obtain ⟨v63, e63, f63⟩ := hf 63 _ 125 rfl rfl
          obtain rfl : undef = v63 := Eq.symm f63
          obtain ⟨_, e64, rfl⟩ := hf 64 _ 126 rfl rfl
          obtain ⟨_, e65, rfl⟩ := hf 65 _ 127 rfl rfl
          obtain ⟨_, e66, rfl⟩ := hf 66 _ 128 rfl rfl
          obtain ⟨_, e67, rfl⟩ := hf 67 _ 129 rfl rfl
          obtain ⟨_, e68, rfl⟩ := hf 68 _ 130 rfl rfl
          obtain ⟨_, e69, rfl⟩ := hf 69 _ 131 rfl rfl
          obtain ⟨_, e70, rfl⟩ := hf 70 _ 132 rfl rfl
          obtain ⟨v71, e71, f71⟩ := hf 71 _ 133 rfl rfl
          obtain rfl : undef = v71 := Eq.symm f71
          obtain ⟨v72, e72, f72⟩ := hf 72 _ 134 rfl rfl
          obtain rfl : undef = v72 := Eq.symm f72
          obtain ⟨v73, e73, f73⟩ := hf 73 _ 135 rfl rfl
          obtain rfl : undef = v73 := Eq.symm f73
          obtain ⟨v74, e74, f74⟩ := hf 74 _ 136 rfl rfl
          obtain rfl : undef = v74 := Eq.symm f74
          obtain ⟨v75, e75, f75⟩ := hf 75 _ 137 rfl rfl
          obtain rfl : undef = v75 := Eq.symm f75
          obtain ⟨v76, e76, f76⟩ := hf 76 _ 138 rfl rfl
          obtain rfl : undef = v76 := Eq.symm f76
          obtain ⟨v77, e77, f77⟩ := hf 77 _ 139 rfl rfl
          obtain rfl : undef = v77 := Eq.symm f77
          obtain ⟨v78, e78, f78⟩ := hf 78 _ 140 rfl rfl
          obtain rfl : undef = v78 := Eq.symm f78
          obtain ⟨v79, e79, f79⟩ := hf 79 _ 141 rfl rfl
          obtain rfl : undef = v79 := Eq.symm f79
          obtain ⟨v80, e80, f80⟩ := hf 80 _ 142 rfl rfl
          obtain rfl : undef = v80 := Eq.symm f80
          obtain ⟨_, e81, rfl⟩ := hf 81 _ 143 rfl rfl
          obtain ⟨_, e82, rfl⟩ := hf 82 _ 144 rfl rfl
          rw [hoff.sets [(62, .pointer (some ⟨kp, 0, none⟩)), (63, .string p.from'), (64, .pointer (some ⟨kp, 1, none⟩)), (65, .string p.to'), (66, .bool false), (67, .bool false), (68, .pointer (some ⟨kr, 2, none⟩)), (69, .slice (some ⟨zb, zo, none⟩) r.args.length xc), (70, .pointer (some ⟨zb, zo, none⟩)), (71, .pointer (some ⟨zb, zo + 1, none⟩)), (72, .string p.head), (73, .pointer (some ⟨kp, 2, none⟩)), (74, .string p.head), (75, .bool false), (76, .bool false), (77, .bool false), (78, .pointer (some ⟨kp, 1, none⟩)), (79, .string p.to'), (80, .bool false), (81, .bool false), (82, undef), (83, undef), (84, undef), (85, undef), (86, undef), (87, undef), (88, undef), (89, undef), (90, undef), (91, undef), (92, undef), (93, undef), (94, undef), (95, undef), (96, undef), (97, undef), (98, undef), (99, undef), (100, undef), (101, undef), (102, undef), (103, undef), (104, .bool false), (105, .bool false), (106, .bool false), (107, .pointer (some ⟨kp, 1, none⟩)), (108, .string p.to'), (109, .bool true), (110, .bool true), (111, .pointer (some ⟨kp, 2, none⟩)), (112, .string p.head), (113, .pointer (some ⟨kp, 0, none⟩)), (114, .string p.from'), (115, .bool false), (116, .bool false), (117, .bool false), (118, undef), (119, undef), (120, undef), (121, undef), (122, undef), (123, undef), (124, undef), (125, undef), (126, .bool false), (127, .bool false), (128, .bool false), (129, .pointer (some ⟨kr, 3, none⟩)), (130, .string r.agg), (131, .bool false), (132, .bool false), (133, undef), (134, undef), (135, undef), (136, undef), (137, undef), (138, undef), (139, undef), (140, undef), (141, undef), (142, undef), (143, .bool false), (144, .bool false)] (by kernel_rfl) (by intro p hp; simp only [List.mem_cons, List.not_mem_nil, or_false] at hp; rcases hp with rfl | rfl | rfl | rfl | rfl | rfl | rfl | rfl | rfl | rfl | rfl | rfl | rfl | rfl | rfl | rfl | rfl | rfl | rfl | rfl | rfl | rfl | rfl | rfl | rfl | rfl | rfl | rfl | rfl | rfl | rfl | rfl | rfl | rfl | rfl | rfl | rfl | rfl | rfl | rfl | rfl | rfl | rfl | rfl | rfl | rfl | rfl | rfl | rfl | rfl | rfl | rfl | rfl | rfl | rfl | rfl | rfl | rfl | rfl | rfl | rfl | rfl | rfl | rfl | rfl | rfl | rfl | rfl | rfl | rfl | rfl | rfl | rfl | rfl | rfl | rfl | rfl | rfl | rfl | rfl | rfl | rfl | rfl <;> assumption)]
          clear hoff hf e0 e1 e2 e3 e4 e5 e6 e7 e8 e9 e10 e11 e12 e13 e14 e15 e16 e17 e18 e19 e20 e21 e22 e23 e24 e25 e26 e27 e28 e29 e30 e31 e32 e33 e34 e35 e36 e37 e38 e39 e40 e41 e42 e43 e44 e45 e46 e47 e48 e49 e50 e51 e52 e53 e54 e55 e56 e57 e58 e59 e60 e61 e62 e63 e64 e65 e66 e67 e68 e69 e70 e71 e72 e73 e74 e75 e76 e77 e78 e79 e80 e81 e82
          simp only [List.foldl_cons, List.foldl_nil, List.setIfInBounds_toArray, List.set_cons_zero, List.set_cons_succ]
          have BZ := Lib.hid (Below.step BN.out hg)
          clear hg
          go_wp2_with fail
          go_roundw
          case rel => exact ⟨k + 1, HKL.out, by have := HKL.out; have := HLN.out; rw [show wrap64 ((k : Int) + 1) = ((k + 1 : Nat) : Int) by unfold wrap64; omega], Below.step hbel.out (Below.step B7.out BZ.out)⟩
          case measure => have := HKL.out; have := HLN.out; rw [show wrap64 ((k : Int) + 1) = ((k + 1 : Nat) : Int) by unfold wrap64; omega]; simp only [intOf]; omega
        | false =>
         refine wp_region_factsG (by rfl) 146 (by rfl) (by kernel_rfl) (FA [.e (.pointer (some ⟨kp, 0, none⟩)), .e (.string p.from'), .e (.pointer (some ⟨kp, 1, none⟩)), .e (.string p.to'), .e (.bool false), .e (.bool false), .e (.pointer (some ⟨kr, 2, none⟩)), .e (.slice (some ⟨zb, zo, none⟩) r.args.length xc), .e (.pointer (some ⟨zb, zo, none⟩)), .e (.pointer (some ⟨zb, zo + 1, none⟩)), .e (.string p.head), .e (.pointer (some ⟨kp, 2, none⟩)), .e (.string p.head), .e (.bool false), .e (.bool false), .e (.bool false), .e (.pointer (some ⟨kp, 1, none⟩)), .e (.string p.to'), .e (.bool false), .e (.bool false), .e undef, .e undef, .e undef, .e undef, .e undef, .e undef, .e undef, .e undef, .e undef, .e undef, .e undef, .e undef, .e undef, .e undef, .e undef, .e undef, .e undef, .e undef, .e undef, .e undef, .e undef, .e undef, .e (.bool false), .e (.bool false), .e (.bool false), .e (.pointer (some ⟨kp, 1, none⟩)), .e (.string p.to'), .e (.bool true), .e (.bool true), .e (.pointer (some ⟨kp, 2, none⟩)), .e (.string p.head), .e (.pointer (some ⟨kp, 0, none⟩)), .e (.string p.from'), .e (.bool false), .e (.bool false), .e (.bool false), .e undef, .e undef, .e undef, .e undef, .e undef, .e undef, .e undef, .e undef, .e (.bool false), .e (.bool false), .e (.bool false), .e (.pointer (some ⟨kr, 3, none⟩)), .e (.string r.agg), .e (.bool true), .e (.bool true), .e (.pointer (some ⟨kp, 1, none⟩)), .e (.string p.to'), .e (.bool false), .e (.bool false), .e (.pointer (some ⟨kp, 2, none⟩)), .e (.string p.head), .e (.pointer (some ⟨kp, 0, none⟩)), .e (.string p.from'), .e (.bool false), .e (.bool false), .e (.bool false), .e (.bool false)]) (fun w' => Below wr.heap.size wr w') (Below.drew (Below.refl _ _)) ⟨?s0, ?s1, ?s2, ?s3, ?s4, ?s5, ?s6, ?s7, ?s8, ?s9, ?s10, ?s11, ?s12, ?s13, ?s14, ?s15, ?s16, ?s17, ?s18, ?s19, ?s20, ?s21, ?s22, ?s23, ?s24, ?s25, ?s26, ?s27, ?s28, ?s29, ?s30, ?s31, ?s32, ?s33, ?s34, ?s35, ?s36, ?s37, ?s38, ?s39, ?s40, ?s41, ?s42, ?s43, ?s44, ?s45, ?s46, ?s47, ?s48, ?s49, ?s50, ?s51, ?s52, ?s53, ?s54, ?s55, ?s56, ?s57, ?s58, ?s59, ?s60, ?s61, ?s62, ?s63, ?s64, ?s65, ?s66, ?s67, ?s68, ?s69, ?s70, ?s71, ?s72, ?s73, ?s74, ?s75, ?s76, ?s77, ?s78, ?s79, ?s80, ?s81, ?s82, trivial⟩ ?fin
         case s0 =>
          intro a w' hoff hg hdep K hK
          have h7 := off_at hoff 7 (v := .pointer (some ⟨kp, 0, none⟩)) (by kernel_rfl) rfl
          rw [if_pos (by rfl)]
          go_simp
          exact hK.out _ _ hg rfl (fun _ _ h => h)
         case s1 =>
          intro a w' hoff hg hdep K hK
          obtain ⟨_, e0, rfl⟩ := hdep 0 _ 62 (by kernel_rfl) rfl rfl
          rw [if_pos (by rfl)]
          obtain ⟨p0, p1, p2⟩ := (X7.out.on (Below.step BN.out hg)).cells
          go_simp
          exact hK.out _ _ hg rfl (fun _ _ h => h)
         case s2 =>
          intro a w' hoff hg hdep K hK
          have h7 := off_at hoff 7 (v := .pointer (some ⟨kp, 0, none⟩)) (by kernel_rfl) rfl
          rw [if_pos (by rfl)]
          go_simp
          exact hK.out _ _ hg rfl (fun _ _ h => h)
         case s3 =>
          intro a w' hoff hg hdep K hK
          obtain ⟨_, e2, rfl⟩ := hdep 2 _ 64 (by kernel_rfl) rfl rfl
          rw [if_pos (by rfl)]
          obtain ⟨p0, p1, p2⟩ := (X7.out.on (Below.step BN.out hg)).cells
          go_simp
          exact hK.out _ _ hg rfl (fun _ _ h => h)
         case s4 =>
          intro a w' hoff hg hdep K hK
          obtain ⟨_, e1, rfl⟩ := hdep 1 _ 63 (by kernel_rfl) rfl rfl
          obtain ⟨_, e3, rfl⟩ := hdep 3 _ 65 (by kernel_rfl) rfl rfl
          rw [if_pos (by rfl)]
          go_simp
          exact hK.out _ _ hg rfl (fun _ _ h => h)
         case s5 =>
          intro a w' hoff hg hdep K hK
          obtain ⟨_, e4, rfl⟩ := hdep 4 _ 66 (by kernel_rfl) rfl rfl
          rw [if_pos (by rfl)]
          go_simp
          exact hK.out _ _ hg rfl (fun _ _ h => h)
         case s6 =>
          intro a w' hoff hg hdep K hK
          have h6 := off_at hoff 6 (v := .pointer (some ⟨kr, 0, none⟩)) (by kernel_rfl) rfl
          obtain ⟨_, e5, rfl⟩ := hdep 5 _ 67 (by kernel_rfl) rfl rfl
          rw [if_pos (by simp [Region.wanted, yielded, e5])]
          go_simp
          exact hK.out _ _ hg rfl (fun _ _ h => h)
         case s7 =>
          intro a w' hoff hg hdep K hK
          obtain ⟨_, e6, rfl⟩ := hdep 6 _ 68 (by kernel_rfl) rfl rfl
          obtain ⟨_, e5, rfl⟩ := hdep 5 _ 67 (by kernel_rfl) rfl rfl
          rw [if_pos (by simp [Region.wanted, yielded, e5])]
          obtain ⟨o0, o1, o2, o3, o4, o5⟩ := (X6.out.on (Below.step BN.out hg)).cells
          go_simp
          exact hK.out _ _ hg rfl (fun _ _ h => h)
         case s8 =>
          intro a w' hoff hg hdep K hK
          obtain ⟨_, e7, rfl⟩ := hdep 7 _ 69 (by kernel_rfl) rfl rfl
          obtain ⟨_, e5, rfl⟩ := hdep 5 _ 67 (by kernel_rfl) rfl rfl
          rw [if_pos (by simp [Region.wanted, yielded, e5])]
          go_simp
          exact hK.out _ _ hg rfl (fun _ _ h => h)
         case s9 =>
          intro a w' hoff hg hdep K hK
          obtain ⟨_, e8, rfl⟩ := hdep 8 _ 70 (by kernel_rfl) rfl rfl
          obtain ⟨_, e5, rfl⟩ := hdep 5 _ 67 (by kernel_rfl) rfl rfl
          rw [if_pos (by simp [Region.wanted, yielded, e5])]
          go_simp
          exact hK.out _ _ hg rfl (fun _ _ h => h)
         case s10 =>
          intro a w' hoff hg hdep K hK
          obtain ⟨_, e9, rfl⟩ := hdep 9 _ 71 (by kernel_rfl) rfl rfl
          obtain ⟨_, e5, rfl⟩ := hdep 5 _ 67 (by kernel_rfl) rfl rfl
          rw [if_pos (by simp [Region.wanted, yielded, e5])]
          have m1 := (hg.cell (p := ⟨zb, zo + 1, none⟩) ZB.out).trans Z1.out
          go_simp
          exact hK.out _ _ hg rfl (fun _ _ h => h)
         case s11 =>
          intro a w' hoff hg hdep K hK
          have h7 := off_at hoff 7 (v := .pointer (some ⟨kp, 0, none⟩)) (by kernel_rfl) rfl
          obtain ⟨_, e5, rfl⟩ := hdep 5 _ 67 (by kernel_rfl) rfl rfl
          rw [if_pos (by simp [Region.wanted, yielded, e5])]
          go_simp
          exact hK.out _ _ hg rfl (fun _ _ h => h)
         case s12 =>
          intro a w' hoff hg hdep K hK
          obtain ⟨_, e11, rfl⟩ := hdep 11 _ 73 (by kernel_rfl) rfl rfl
          obtain ⟨_, e5, rfl⟩ := hdep 5 _ 67 (by kernel_rfl) rfl rfl
          rw [if_pos (by simp [Region.wanted, yielded, e5])]
          obtain ⟨p0, p1, p2⟩ := (X7.out.on (Below.step BN.out hg)).cells
          go_simp
          exact hK.out _ _ hg rfl (fun _ _ h => h)
         case s13 =>
          intro a w' hoff hg hdep K hK
          obtain ⟨_, e10, rfl⟩ := hdep 10 _ 72 (by kernel_rfl) rfl rfl
          obtain ⟨_, e12, rfl⟩ := hdep 12 _ 74 (by kernel_rfl) rfl rfl
          obtain ⟨_, e5, rfl⟩ := hdep 5 _ 67 (by kernel_rfl) rfl rfl
          rw [if_pos (by simp [Region.wanted, yielded, e5])]
          go_simp
          exact hK.out _ _ hg rfl (fun _ _ h => h)
         case s14 =>
          intro a w' hoff hg hdep K hK
          obtain ⟨_, e5, rfl⟩ := hdep 5 _ 67 (by kernel_rfl) rfl rfl
          obtain ⟨_, e13, rfl⟩ := hdep 13 _ 75 (by kernel_rfl) rfl rfl
          rw [if_pos (by rfl)]
          go_simp
          exact hK.out _ _ hg rfl (fun _ _ h => h)
         case s15 =>
          intro a w' hoff hg hdep K hK
          obtain ⟨_, e14, rfl⟩ := hdep 14 _ 76 (by kernel_rfl) rfl rfl
          rw [if_pos (by rfl)]
          go_simp
          exact hK.out _ _ hg rfl (fun _ _ h => h)
         case s16 =>
          intro a w' hoff hg hdep K hK
          have h7 := off_at hoff 7 (v := .pointer (some ⟨kp, 0, none⟩)) (by kernel_rfl) rfl
          obtain ⟨_, e15, rfl⟩ := hdep 15 _ 77 (by kernel_rfl) rfl rfl
          rw [if_pos (by simp [Region.wanted, yielded, e15])]
          go_simp
          exact hK.out _ _ hg rfl (fun _ _ h => h)
         case s17 =>
          intro a w' hoff hg hdep K hK
          obtain ⟨_, e16, rfl⟩ := hdep 16 _ 78 (by kernel_rfl) rfl rfl
          obtain ⟨_, e15, rfl⟩ := hdep 15 _ 77 (by kernel_rfl) rfl rfl
          rw [if_pos (by simp [Region.wanted, yielded, e15])]
          obtain ⟨p0, p1, p2⟩ := (X7.out.on (Below.step BN.out hg)).cells
          go_simp
          exact hK.out _ _ hg rfl (fun _ _ h => h)
         case s18 =>
          intro a w' hoff hg hdep K hK
          obtain ⟨_, e17, rfl⟩ := hdep 17 _ 79 (by kernel_rfl) rfl rfl
          obtain ⟨_, e15, rfl⟩ := hdep 15 _ 77 (by kernel_rfl) rfl rfl
          rw [if_pos (by simp [Region.wanted, yielded, e15])]
          go_simp
          exact hK.out _ _ hg rfl (fun _ _ h => h)
         case s19 =>
          intro a w' hoff hg hdep K hK
          obtain ⟨_, e18, rfl⟩ := hdep 18 _ 80 (by kernel_rfl) rfl rfl
          obtain ⟨_, e15, rfl⟩ := hdep 15 _ 77 (by kernel_rfl) rfl rfl
          rw [if_pos (by simp [Region.wanted, yielded, e15])]
          go_simp
          exact hK.out _ _ hg rfl (fun _ _ h => h)
         case s20 =>
          intro a w' hoff hg hdep K hK
          have h6 := off_at hoff 6 (v := .pointer (some ⟨kr, 0, none⟩)) (by kernel_rfl) rfl
          obtain ⟨_, e19, rfl⟩ := hdep 19 _ 81 (by kernel_rfl) rfl rfl
          rw [if_neg (by simp [Region.wanted, yielded, e19])]
          exact hK.out _ _ hg rfl (fun _ _ h => h)
         case s21 =>
          intro a w' hoff hg hdep K hK
          obtain ⟨v20, e20, f20⟩ := hdep 20 _ 82 (by kernel_rfl) rfl rfl
          obtain rfl : undef = v20 := Eq.symm f20
          obtain ⟨_, e19, rfl⟩ := hdep 19 _ 81 (by kernel_rfl) rfl rfl
          rw [if_neg (by simp [Region.wanted, yielded, e19])]
          exact hK.out _ _ hg rfl (fun _ _ h => h)
         case s22 =>
          intro a w' hoff hg hdep K hK
          have h7 := off_at hoff 7 (v := .pointer (some ⟨kp, 0, none⟩)) (by kernel_rfl) rfl
          obtain ⟨_, e19, rfl⟩ := hdep 19 _ 81 (by kernel_rfl) rfl rfl
          rw [if_neg (by simp [Region.wanted, yielded, e19])]
          exact hK.out _ _ hg rfl (fun _ _ h => h)
         case s23 =>
          intro a w' hoff hg hdep K hK
          obtain ⟨v22, e22, f22⟩ := hdep 22 _ 84 (by kernel_rfl) rfl rfl
          obtain rfl : undef = v22 := Eq.symm f22
          obtain ⟨_, e19, rfl⟩ := hdep 19 _ 81 (by kernel_rfl) rfl rfl
          rw [if_neg (by simp [Region.wanted, yielded, e19])]
          exact hK.out _ _ hg rfl (fun _ _ h => h)
         case s24 =>
          intro a w' hoff hg hdep K hK
          have h7 := off_at hoff 7 (v := .pointer (some ⟨kp, 0, none⟩)) (by kernel_rfl) rfl
          obtain ⟨_, e19, rfl⟩ := hdep 19 _ 81 (by kernel_rfl) rfl rfl
          rw [if_neg (by simp [Region.wanted, yielded, e19])]
          exact hK.out _ _ hg rfl (fun _ _ h => h)
         case s25 =>
          intro a w' hoff hg hdep K hK
          obtain ⟨v24, e24, f24⟩ := hdep 24 _ 86 (by kernel_rfl) rfl rfl
          obtain rfl : undef = v24 := Eq.symm f24
          obtain ⟨_, e19, rfl⟩ := hdep 19 _ 81 (by kernel_rfl) rfl rfl
          rw [if_neg (by simp [Region.wanted, yielded, e19])]
          exact hK.out _ _ hg rfl (fun _ _ h => h)
         case s26 =>
          intro a w' hoff hg hdep K hK
          obtain ⟨v21, e21, f21⟩ := hdep 21 _ 83 (by kernel_rfl) rfl rfl
          obtain rfl : undef = v21 := Eq.symm f21
          obtain ⟨v23, e23, f23⟩ := hdep 23 _ 85 (by kernel_rfl) rfl rfl
          obtain rfl : undef = v23 := Eq.symm f23
          obtain ⟨v25, e25, f25⟩ := hdep 25 _ 87 (by kernel_rfl) rfl rfl
          obtain rfl : undef = v25 := Eq.symm f25
          obtain ⟨_, e19, rfl⟩ := hdep 19 _ 81 (by kernel_rfl) rfl rfl
          rw [if_neg (by simp [Region.wanted, yielded, e19])]
          exact hK.out _ _ hg rfl (fun _ _ h => h)
         case s27 =>
          intro a w' hoff hg hdep K hK
          obtain ⟨v26, e26, f26⟩ := hdep 26 _ 88 (by kernel_rfl) rfl rfl
          obtain rfl : undef = v26 := Eq.symm f26
          obtain ⟨_, e19, rfl⟩ := hdep 19 _ 81 (by kernel_rfl) rfl rfl
          rw [if_neg (by simp [Region.wanted, yielded, e19])]
          exact hK.out _ _ hg rfl (fun _ _ h => h)
         case s28 =>
          intro a w' hoff hg hdep K hK
          obtain ⟨v27, e27, f27⟩ := hdep 27 _ 89 (by kernel_rfl) rfl rfl
          obtain rfl : undef = v27 := Eq.symm f27
          obtain ⟨_, e19, rfl⟩ := hdep 19 _ 81 (by kernel_rfl) rfl rfl
          rw [if_neg (by simp [Region.wanted, yielded, e19])]
          exact hK.out _ _ hg rfl (fun _ _ h => h)
         case s29 =>
          intro a w' hoff hg hdep K hK
          have h7 := off_at hoff 7 (v := .pointer (some ⟨kp, 0, none⟩)) (by kernel_rfl) rfl
          obtain ⟨v28, e28, f28⟩ := hdep 28 _ 90 (by kernel_rfl) rfl rfl
          obtain rfl : undef = v28 := Eq.symm f28
          rw [if_neg (by simp [Region.wanted, yielded, e28, undef])]
          exact hK.out _ _ hg rfl (fun _ _ h => h)
         case s30 =>
          intro a w' hoff hg hdep K hK
          obtain ⟨v29, e29, f29⟩ := hdep 29 _ 91 (by kernel_rfl) rfl rfl
          obtain rfl : undef = v29 := Eq.symm f29
          obtain ⟨v28, e28, f28⟩ := hdep 28 _ 90 (by kernel_rfl) rfl rfl
          obtain rfl : undef = v28 := Eq.symm f28
          rw [if_neg (by simp [Region.wanted, yielded, e28, undef])]
          exact hK.out _ _ hg rfl (fun _ _ h => h)
         case s31 =>
          intro a w' hoff hg hdep K hK
          have h7 := off_at hoff 7 (v := .pointer (some ⟨kp, 0, none⟩)) (by kernel_rfl) rfl
          obtain ⟨v28, e28, f28⟩ := hdep 28 _ 90 (by kernel_rfl) rfl rfl
          obtain rfl : undef = v28 := Eq.symm f28
          rw [if_neg (by simp [Region.wanted, yielded, e28, undef])]
          exact hK.out _ _ hg rfl (fun _ _ h => h)
         case s32 =>
          intro a w' hoff hg hdep K hK
          obtain ⟨v31, e31, f31⟩ := hdep 31 _ 93 (by kernel_rfl) rfl rfl
          obtain rfl : undef = v31 := Eq.symm f31
          obtain ⟨v28, e28, f28⟩ := hdep 28 _ 90 (by kernel_rfl) rfl rfl
          obtain rfl : undef = v28 := Eq.symm f28
          rw [if_neg (by simp [Region.wanted, yielded, e28, undef])]
          exact hK.out _ _ hg rfl (fun _ _ h => h)
         case s33 =>
          intro a w' hoff hg hdep K hK
          obtain ⟨v30, e30, f30⟩ := hdep 30 _ 92 (by kernel_rfl) rfl rfl
          obtain rfl : undef = v30 := Eq.symm f30
          obtain ⟨v32, e32, f32⟩ := hdep 32 _ 94 (by kernel_rfl) rfl rfl
          obtain rfl : undef = v32 := Eq.symm f32
          obtain ⟨v28, e28, f28⟩ := hdep 28 _ 90 (by kernel_rfl) rfl rfl
          obtain rfl : undef = v28 := Eq.symm f28
          rw [if_neg (by simp [Region.wanted, yielded, e28, undef])]
          exact hK.out _ _ hg rfl (fun _ _ h => h)
         case s34 =>
          intro a w' hoff hg hdep K hK
          obtain ⟨v33, e33, f33⟩ := hdep 33 _ 95 (by kernel_rfl) rfl rfl
          obtain rfl : undef = v33 := Eq.symm f33
          obtain ⟨v28, e28, f28⟩ := hdep 28 _ 90 (by kernel_rfl) rfl rfl
          obtain rfl : undef = v28 := Eq.symm f28
          rw [if_neg (by simp [Region.wanted, yielded, e28, undef])]
          exact hK.out _ _ hg rfl (fun _ _ h => h)
         case s35 =>
          intro a w' hoff hg hdep K hK
          have h7 := off_at hoff 7 (v := .pointer (some ⟨kp, 0, none⟩)) (by kernel_rfl) rfl
          obtain ⟨v34, e34, f34⟩ := hdep 34 _ 96 (by kernel_rfl) rfl rfl
          obtain rfl : undef = v34 := Eq.symm f34
          rw [if_neg (by simp [Region.wanted, yielded, e34, undef])]
          exact hK.out _ _ hg rfl (fun _ _ h => h)
         case s36 =>
          intro a w' hoff hg hdep K hK
          obtain ⟨v35, e35, f35⟩ := hdep 35 _ 97 (by kernel_rfl) rfl rfl
          obtain rfl : undef = v35 := Eq.symm f35
          obtain ⟨v34, e34, f34⟩ := hdep 34 _ 96 (by kernel_rfl) rfl rfl
          obtain rfl : undef = v34 := Eq.symm f34
          rw [if_neg (by simp [Region.wanted, yielded, e34, undef])]
          exact hK.out _ _ hg rfl (fun _ _ h => h)
         case s37 =>
          intro a w' hoff hg hdep K hK
          have h7 := off_at hoff 7 (v := .pointer (some ⟨kp, 0, none⟩)) (by kernel_rfl) rfl
          obtain ⟨v34, e34, f34⟩ := hdep 34 _ 96 (by kernel_rfl) rfl rfl
          obtain rfl : undef = v34 := Eq.symm f34
          rw [if_neg (by simp [Region.wanted, yielded, e34, undef])]
          exact hK.out _ _ hg rfl (fun _ _ h => h)
         case s38 =>
          intro a w' hoff hg hdep K hK
          obtain ⟨v37, e37, f37⟩ := hdep 37 _ 99 (by kernel_rfl) rfl rfl
          obtain rfl : undef = v37 := Eq.symm f37
          obtain ⟨v34, e34, f34⟩ := hdep 34 _ 96 (by kernel_rfl) rfl rfl
          obtain rfl : undef = v34 := Eq.symm f34
          rw [if_neg (by simp [Region.wanted, yielded, e34, undef])]
          exact hK.out _ _ hg rfl (fun _ _ h => h)
         case s39 =>
          intro a w' hoff hg hdep K hK
          obtain ⟨v36, e36, f36⟩ := hdep 36 _ 98 (by kernel_rfl) rfl rfl
          obtain rfl : undef = v36 := Eq.symm f36
          obtain ⟨v38, e38, f38⟩ := hdep 38 _ 100 (by kernel_rfl) rfl rfl
          obtain rfl : undef = v38 := Eq.symm f38
          obtain ⟨v34, e34, f34⟩ := hdep 34 _ 96 (by kernel_rfl) rfl rfl
          obtain rfl : undef = v34 := Eq.symm f34
          rw [if_neg (by simp [Region.wanted, yielded, e34, undef])]
          exact hK.out _ _ hg rfl (fun _ _ h => h)
         case s40 =>
          intro a w' hoff hg hdep K hK
          obtain ⟨v34, e34, f34⟩ := hdep 34 _ 96 (by kernel_rfl) rfl rfl
          obtain rfl : undef = v34 := Eq.symm f34
          obtain ⟨v39, e39, f39⟩ := hdep 39 _ 101 (by kernel_rfl) rfl rfl
          obtain rfl : undef = v39 := Eq.symm f39
          obtain ⟨v28, e28, f28⟩ := hdep 28 _ 90 (by kernel_rfl) rfl rfl
          obtain rfl : undef = v28 := Eq.symm f28
          rw [if_neg (by simp [Region.wanted, yielded, e28, undef])]
          exact hK.out _ _ hg rfl (fun _ _ h => h)
         case s41 =>
          intro a w' hoff hg hdep K hK
          obtain ⟨v28, e28, f28⟩ := hdep 28 _ 90 (by kernel_rfl) rfl rfl
          obtain rfl : undef = v28 := Eq.symm f28
          obtain ⟨v40, e40, f40⟩ := hdep 40 _ 102 (by kernel_rfl) rfl rfl
          obtain rfl : undef = v40 := Eq.symm f40
          obtain ⟨_, e19, rfl⟩ := hdep 19 _ 81 (by kernel_rfl) rfl rfl
          rw [if_neg (by simp [Region.wanted, yielded, e19])]
          exact hK.out _ _ hg rfl (fun _ _ h => h)
         case s42 =>
          intro a w' hoff hg hdep K hK
          obtain ⟨_, e19, rfl⟩ := hdep 19 _ 81 (by kernel_rfl) rfl rfl
          obtain ⟨v41, e41, f41⟩ := hdep 41 _ 103 (by kernel_rfl) rfl rfl
          obtain rfl : undef = v41 := Eq.symm f41
          obtain ⟨_, e15, rfl⟩ := hdep 15 _ 77 (by kernel_rfl) rfl rfl
          rw [if_pos (by simp [Region.wanted, yielded, e15])]
          go_simp
          exact hK.out _ _ hg rfl (fun _ _ h => h)
         case s43 =>
          intro a w' hoff hg hdep K hK
          obtain ⟨_, e15, rfl⟩ := hdep 15 _ 77 (by kernel_rfl) rfl rfl
          obtain ⟨_, e42, rfl⟩ := hdep 42 _ 104 (by kernel_rfl) rfl rfl
          rw [if_pos (by rfl)]
          go_simp
          exact hK.out _ _ hg rfl (fun _ _ h => h)
         case s44 =>
          intro a w' hoff hg hdep K hK
          obtain ⟨_, e43, rfl⟩ := hdep 43 _ 105 (by kernel_rfl) rfl rfl
          rw [if_pos (by rfl)]
          go_simp
          exact hK.out _ _ hg rfl (fun _ _ h => h)
         case s45 =>
          intro a w' hoff hg hdep K hK
          have h7 := off_at hoff 7 (v := .pointer (some ⟨kp, 0, none⟩)) (by kernel_rfl) rfl
          obtain ⟨_, e44, rfl⟩ := hdep 44 _ 106 (by kernel_rfl) rfl rfl
          rw [if_pos (by simp [Region.wanted, yielded, e44])]
          go_simp
          exact hK.out _ _ hg rfl (fun _ _ h => h)
         case s46 =>
          intro a w' hoff hg hdep K hK
          obtain ⟨_, e45, rfl⟩ := hdep 45 _ 107 (by kernel_rfl) rfl rfl
          obtain ⟨_, e44, rfl⟩ := hdep 44 _ 106 (by kernel_rfl) rfl rfl
          rw [if_pos (by simp [Region.wanted, yielded, e44])]
          obtain ⟨p0, p1, p2⟩ := (X7.out.on (Below.step BN.out hg)).cells
          go_simp
          exact hK.out _ _ hg rfl (fun _ _ h => h)
         case s47 =>
          intro a w' hoff hg hdep K hK
          obtain ⟨_, e46, rfl⟩ := hdep 46 _ 108 (by kernel_rfl) rfl rfl
          obtain ⟨_, e44, rfl⟩ := hdep 44 _ 106 (by kernel_rfl) rfl rfl
          rw [if_pos (by simp [Region.wanted, yielded, e44])]
          go_simp
          exact hK.out _ _ hg rfl (fun _ _ h => h)
         case s48 =>
          intro a w' hoff hg hdep K hK
          obtain ⟨_, e47, rfl⟩ := hdep 47 _ 109 (by kernel_rfl) rfl rfl
          obtain ⟨_, e44, rfl⟩ := hdep 44 _ 106 (by kernel_rfl) rfl rfl
          rw [if_pos (by simp [Region.wanted, yielded, e44])]
          go_simp
          exact hK.out _ _ hg rfl (fun _ _ h => h)
         case s49 =>
          intro a w' hoff hg hdep K hK
          have h7 := off_at hoff 7 (v := .pointer (some ⟨kp, 0, none⟩)) (by kernel_rfl) rfl
          obtain ⟨_, e48, rfl⟩ := hdep 48 _ 110 (by kernel_rfl) rfl rfl
          rw [if_pos (by simp [Region.wanted, yielded, e48])]
          go_simp
          exact hK.out _ _ hg rfl (fun _ _ h => h)
         case s50 =>
          intro a w' hoff hg hdep K hK
          obtain ⟨_, e49, rfl⟩ := hdep 49 _ 111 (by kernel_rfl) rfl rfl
          obtain ⟨_, e48, rfl⟩ := hdep 48 _ 110 (by kernel_rfl) rfl rfl
          rw [if_pos (by simp [Region.wanted, yielded, e48])]
          obtain ⟨p0, p1, p2⟩ := (X7.out.on (Below.step BN.out hg)).cells
          go_simp
          exact hK.out _ _ hg rfl (fun _ _ h => h)
         case s51 =>
          intro a w' hoff hg hdep K hK
          have h7 := off_at hoff 7 (v := .pointer (some ⟨kp, 0, none⟩)) (by kernel_rfl) rfl
          obtain ⟨_, e48, rfl⟩ := hdep 48 _ 110 (by kernel_rfl) rfl rfl
          rw [if_pos (by simp [Region.wanted, yielded, e48])]
          go_simp
          exact hK.out _ _ hg rfl (fun _ _ h => h)
         case s52 =>
          intro a w' hoff hg hdep K hK
          obtain ⟨_, e51, rfl⟩ := hdep 51 _ 113 (by kernel_rfl) rfl rfl
          obtain ⟨_, e48, rfl⟩ := hdep 48 _ 110 (by kernel_rfl) rfl rfl
          rw [if_pos (by simp [Region.wanted, yielded, e48])]
          obtain ⟨p0, p1, p2⟩ := (X7.out.on (Below.step BN.out hg)).cells
          go_simp
          exact hK.out _ _ hg rfl (fun _ _ h => h)
         case s53 =>
          intro a w' hoff hg hdep K hK
          obtain ⟨_, e50, rfl⟩ := hdep 50 _ 112 (by kernel_rfl) rfl rfl
          obtain ⟨_, e52, rfl⟩ := hdep 52 _ 114 (by kernel_rfl) rfl rfl
          obtain ⟨_, e48, rfl⟩ := hdep 48 _ 110 (by kernel_rfl) rfl rfl
          rw [if_pos (by simp [Region.wanted, yielded, e48])]
          go_simp
          exact hK.out _ _ hg rfl (fun _ _ h => h)
         case s54 =>
          intro a w' hoff hg hdep K hK
          obtain ⟨_, e48, rfl⟩ := hdep 48 _ 110 (by kernel_rfl) rfl rfl
          obtain ⟨_, e53, rfl⟩ := hdep 53 _ 115 (by kernel_rfl) rfl rfl
          obtain ⟨_, e44, rfl⟩ := hdep 44 _ 106 (by kernel_rfl) rfl rfl
          rw [if_pos (by simp [Region.wanted, yielded, e44])]
          go_simp
          exact hK.out _ _ hg rfl (fun _ _ h => h)
         case s55 =>
          intro a w' hoff hg hdep K hK
          obtain ⟨_, e54, rfl⟩ := hdep 54 _ 116 (by kernel_rfl) rfl rfl
          obtain ⟨_, e44, rfl⟩ := hdep 44 _ 106 (by kernel_rfl) rfl rfl
          rw [if_pos (by simp [Region.wanted, yielded, e44])]
          go_simp
          exact hK.out _ _ hg rfl (fun _ _ h => h)
         case s56 =>
          intro a w' hoff hg hdep K hK
          have h6 := off_at hoff 6 (v := .pointer (some ⟨kr, 0, none⟩)) (by kernel_rfl) rfl
          obtain ⟨_, e55, rfl⟩ := hdep 55 _ 117 (by kernel_rfl) rfl rfl
          rw [if_neg (by simp [Region.wanted, yielded, e55])]
          exact hK.out _ _ hg rfl (fun _ _ h => h)
         case s57 =>
          intro a w' hoff hg hdep K hK
          obtain ⟨v56, e56, f56⟩ := hdep 56 _ 118 (by kernel_rfl) rfl rfl
          obtain rfl : undef = v56 := Eq.symm f56
          obtain ⟨_, e55, rfl⟩ := hdep 55 _ 117 (by kernel_rfl) rfl rfl
          rw [if_neg (by simp [Region.wanted, yielded, e55])]
          exact hK.out _ _ hg rfl (fun _ _ h => h)
         case s58 =>
          intro a w' hoff hg hdep K hK
          have h7 := off_at hoff 7 (v := .pointer (some ⟨kp, 0, none⟩)) (by kernel_rfl) rfl
          obtain ⟨_, e55, rfl⟩ := hdep 55 _ 117 (by kernel_rfl) rfl rfl
          rw [if_neg (by simp [Region.wanted, yielded, e55])]
          exact hK.out _ _ hg rfl (fun _ _ h => h)
         case s59 =>
          intro a w' hoff hg hdep K hK
          obtain ⟨v58, e58, f58⟩ := hdep 58 _ 120 (by kernel_rfl) rfl rfl
          obtain rfl : undef = v58 := Eq.symm f58
          obtain ⟨_, e55, rfl⟩ := hdep 55 _ 117 (by kernel_rfl) rfl rfl
          rw [if_neg (by simp [Region.wanted, yielded, e55])]
          exact hK.out _ _ hg rfl (fun _ _ h => h)
         case s60 =>
          intro a w' hoff hg hdep K hK
          have h7 := off_at hoff 7 (v := .pointer (some ⟨kp, 0, none⟩)) (by kernel_rfl) rfl
          obtain ⟨_, e55, rfl⟩ := hdep 55 _ 117 (by kernel_rfl) rfl rfl
          rw [if_neg (by simp [Region.wanted, yielded, e55])]
          exact hK.out _ _ hg rfl (fun _ _ h => h)
         case s61 =>
          intro a w' hoff hg hdep K hK
          obtain ⟨v60, e60, f60⟩ := hdep 60 _ 122 (by kernel_rfl) rfl rfl
          obtain rfl : undef = v60 := Eq.symm f60
          obtain ⟨_, e55, rfl⟩ := hdep 55 _ 117 (by kernel_rfl) rfl rfl
          rw [if_neg (by simp [Region.wanted, yielded, e55])]
          exact hK.out _ _ hg rfl (fun _ _ h => h)
         case s62 =>
          intro a w' hoff hg hdep K hK
          obtain ⟨v57, e57, f57⟩ := hdep 57 _ 119 (by kernel_rfl) rfl rfl
          obtain rfl : undef = v57 := Eq.symm f57
          obtain ⟨v59, e59, f59⟩ := hdep 59 _ 121 (by kernel_rfl) rfl rfl
          obtain rfl : undef = v59 := Eq.symm f59
          obtain ⟨v61, e61, f61⟩ := hdep 61 _ 123 (by kernel_rfl) rfl rfl
          obtain rfl : undef = v61 := Eq.symm f61
          obtain ⟨_, e55, rfl⟩ := hdep 55 _ 117 (by kernel_rfl) rfl rfl
          rw [if_neg (by simp [Region.wanted, yielded, e55])]
          exact hK.out _ _ hg rfl (fun _ _ h => h)
         case s63 =>
          intro a w' hoff hg hdep K hK
          obtain ⟨v62, e62, f62⟩ := hdep 62 _ 124 (by kernel_rfl) rfl rfl
          obtain rfl : undef = v62 := Eq.symm f62
          obtain ⟨_, e55, rfl⟩ := hdep 55 _ 117 (by kernel_rfl) rfl rfl
          rw [if_neg (by simp [Region.wanted, yielded, e55])]
          exact hK.out _ _ hg rfl (fun _ _ h => h)
         case s64 =>
          intro a w' hoff hg hdep K hK
          obtain ⟨_, e55, rfl⟩ := hdep 55 _ 117 (by kernel_rfl) rfl rfl
          obtain ⟨v63, e63, f63⟩ := hdep 63 _ 125 (by kernel_rfl) rfl rfl
          obtain rfl : undef = v63 := Eq.symm f63
          obtain ⟨_, e44, rfl⟩ := hdep 44 _ 106 (by kernel_rfl) rfl rfl
          rw [if_pos (by simp [Region.wanted, yielded, e44])]
          go_simp
          exact hK.out _ _ hg rfl (fun _ _ h => h)
         case s65 =>
          intro a w' hoff hg hdep K hK
          obtain ⟨_, e44, rfl⟩ := hdep 44 _ 106 (by kernel_rfl) rfl rfl
          obtain ⟨_, e64, rfl⟩ := hdep 64 _ 126 (by kernel_rfl) rfl rfl
          rw [if_pos (by rfl)]
          go_simp
          exact hK.out _ _ hg rfl (fun _ _ h => h)
         case s66 =>
          intro a w' hoff hg hdep K hK
          obtain ⟨_, e65, rfl⟩ := hdep 65 _ 127 (by kernel_rfl) rfl rfl
          rw [if_pos (by rfl)]
          go_simp
          exact hK.out _ _ hg rfl (fun _ _ h => h)
         case s67 =>
          intro a w' hoff hg hdep K hK
          have h6 := off_at hoff 6 (v := .pointer (some ⟨kr, 0, none⟩)) (by kernel_rfl) rfl
          obtain ⟨_, e66, rfl⟩ := hdep 66 _ 128 (by kernel_rfl) rfl rfl
          rw [if_pos (by simp [Region.wanted, yielded, e66])]
          go_simp
          exact hK.out _ _ hg rfl (fun _ _ h => h)
         case s68 =>
          intro a w' hoff hg hdep K hK
          obtain ⟨_, e67, rfl⟩ := hdep 67 _ 129 (by kernel_rfl) rfl rfl
          obtain ⟨_, e66, rfl⟩ := hdep 66 _ 128 (by kernel_rfl) rfl rfl
          rw [if_pos (by simp [Region.wanted, yielded, e66])]
          obtain ⟨o0, o1, o2, o3, o4, o5⟩ := (X6.out.on (Below.step BN.out hg)).cells
          go_simp
          exact hK.out _ _ hg rfl (fun _ _ h => h)
         case s69 =>
          intro a w' hoff hg hdep K hK
          obtain ⟨_, e68, rfl⟩ := hdep 68 _ 130 (by kernel_rfl) rfl rfl
          obtain ⟨_, e66, rfl⟩ := hdep 66 _ 128 (by kernel_rfl) rfl rfl
          rw [if_pos (by simp [Region.wanted, yielded, e66])]
          go_simp
          exact hK.out _ _ hg rfl (fun _ _ h => h)
         case s70 =>
          intro a w' hoff hg hdep K hK
          obtain ⟨_, e69, rfl⟩ := hdep 69 _ 131 (by kernel_rfl) rfl rfl
          obtain ⟨_, e66, rfl⟩ := hdep 66 _ 128 (by kernel_rfl) rfl rfl
          rw [if_pos (by simp [Region.wanted, yielded, e66])]
          go_simp
          exact hK.out _ _ hg rfl (fun _ _ h => h)
         case s71 =>
          intro a w' hoff hg hdep K hK
          have h7 := off_at hoff 7 (v := .pointer (some ⟨kp, 0, none⟩)) (by kernel_rfl) rfl
          obtain ⟨_, e70, rfl⟩ := hdep 70 _ 132 (by kernel_rfl) rfl rfl
          rw [if_pos (by simp [Region.wanted, yielded, e70])]
          go_simp
          exact hK.out _ _ hg rfl (fun _ _ h => h)
         case s72 =>
          intro a w' hoff hg hdep K hK
          obtain ⟨_, e71, rfl⟩ := hdep 71 _ 133 (by kernel_rfl) rfl rfl
          obtain ⟨_, e70, rfl⟩ := hdep 70 _ 132 (by kernel_rfl) rfl rfl
          rw [if_pos (by simp [Region.wanted, yielded, e70])]
          obtain ⟨p0, p1, p2⟩ := (X7.out.on (Below.step BN.out hg)).cells
          go_simp
          exact hK.out _ _ hg rfl (fun _ _ h => h)
         case s73 =>
          intro a w' hoff hg hdep K hK
          obtain ⟨_, e72, rfl⟩ := hdep 72 _ 134 (by kernel_rfl) rfl rfl
          obtain ⟨_, e70, rfl⟩ := hdep 70 _ 132 (by kernel_rfl) rfl rfl
          rw [if_pos (by simp [Region.wanted, yielded, e70])]
          go_simp
          exact hK.out _ _ hg rfl (fun _ _ h => h)
         case s74 =>
          intro a w' hoff hg hdep K hK
          obtain ⟨_, e73, rfl⟩ := hdep 73 _ 135 (by kernel_rfl) rfl rfl
          obtain ⟨_, e70, rfl⟩ := hdep 70 _ 132 (by kernel_rfl) rfl rfl
          rw [if_pos (by simp [Region.wanted, yielded, e70])]
          go_simp
          exact hK.out _ _ hg rfl (fun _ _ h => h)
         case s75 =>
          intro a w' hoff hg hdep K hK
          have h7 := off_at hoff 7 (v := .pointer (some ⟨kp, 0, none⟩)) (by kernel_rfl) rfl
          obtain ⟨_, e74, rfl⟩ := hdep 74 _ 136 (by kernel_rfl) rfl rfl
          rw [if_pos (by simp [Region.wanted, yielded, e74])]
          go_simp
          exact hK.out _ _ hg rfl (fun _ _ h => h)
         case s76 =>
          intro a w' hoff hg hdep K hK
          obtain ⟨_, e75, rfl⟩ := hdep 75 _ 137 (by kernel_rfl) rfl rfl
          obtain ⟨_, e74, rfl⟩ := hdep 74 _ 136 (by kernel_rfl) rfl rfl
          rw [if_pos (by simp [Region.wanted, yielded, e74])]
          obtain ⟨p0, p1, p2⟩ := (X7.out.on (Below.step BN.out hg)).cells
          go_simp
          exact hK.out _ _ hg rfl (fun _ _ h => h)
         case s77 =>
          intro a w' hoff hg hdep K hK
          have h7 := off_at hoff 7 (v := .pointer (some ⟨kp, 0, none⟩)) (by kernel_rfl) rfl
          obtain ⟨_, e74, rfl⟩ := hdep 74 _ 136 (by kernel_rfl) rfl rfl
          rw [if_pos (by simp [Region.wanted, yielded, e74])]
          go_simp
          exact hK.out _ _ hg rfl (fun _ _ h => h)
         case s78 =>
          intro a w' hoff hg hdep K hK
          obtain ⟨_, e77, rfl⟩ := hdep 77 _ 139 (by kernel_rfl) rfl rfl
          obtain ⟨_, e74, rfl⟩ := hdep 74 _ 136 (by kernel_rfl) rfl rfl
          rw [if_pos (by simp [Region.wanted, yielded, e74])]
          obtain ⟨p0, p1, p2⟩ := (X7.out.on (Below.step BN.out hg)).cells
          go_simp
          exact hK.out _ _ hg rfl (fun _ _ h => h)
         case s79 =>
          intro a w' hoff hg hdep K hK
          obtain ⟨_, e76, rfl⟩ := hdep 76 _ 138 (by kernel_rfl) rfl rfl
          obtain ⟨_, e78, rfl⟩ := hdep 78 _ 140 (by kernel_rfl) rfl rfl
          obtain ⟨_, e74, rfl⟩ := hdep 74 _ 136 (by kernel_rfl) rfl rfl
          rw [if_pos (by simp [Region.wanted, yielded, e74])]
          go_simp
          exact hK.out _ _ hg rfl (fun _ _ h => h)
         case s80 =>
          intro a w' hoff hg hdep K hK
          obtain ⟨_, e74, rfl⟩ := hdep 74 _ 136 (by kernel_rfl) rfl rfl
          obtain ⟨_, e79, rfl⟩ := hdep 79 _ 141 (by kernel_rfl) rfl rfl
          obtain ⟨_, e70, rfl⟩ := hdep 70 _ 132 (by kernel_rfl) rfl rfl
          rw [if_pos (by simp [Region.wanted, yielded, e70])]
          go_simp
          exact hK.out _ _ hg rfl (fun _ _ h => h)
         case s81 =>
          intro a w' hoff hg hdep K hK
          obtain ⟨_, e70, rfl⟩ := hdep 70 _ 132 (by kernel_rfl) rfl rfl
          obtain ⟨_, e80, rfl⟩ := hdep 80 _ 142 (by kernel_rfl) rfl rfl
          obtain ⟨_, e66, rfl⟩ := hdep 66 _ 128 (by kernel_rfl) rfl rfl
          rw [if_pos (by simp [Region.wanted, yielded, e66])]
          go_simp
          exact hK.out _ _ hg rfl (fun _ _ h => h)
         case s82 =>
          intro a w' hoff hg hdep K hK
          obtain ⟨_, e66, rfl⟩ := hdep 66 _ 128 (by kernel_rfl) rfl rfl
          obtain ⟨_, e81, rfl⟩ := hdep 81 _ 143 (by kernel_rfl) rfl rfl
          rw [if_pos (by rfl)]
          go_simp
          exact hK.out _ _ hg rfl (fun _ _ h => h)
         case fin =>
          intro a w' hoff hg hf
          obtain ⟨_, e0, rfl⟩ := hf 0 _ 62 rfl rfl
          obtain ⟨_, e1, rfl⟩ := hf 1 _ 63 rfl rfl
          obtain ⟨_, e2, rfl⟩ := hf 2 _ 64 rfl rfl
          obtain ⟨_, e3, rfl⟩ := hf 3 _ 65 rfl rfl
          obtain ⟨_, e4, rfl⟩ := hf 4 _ 66 rfl rfl
          obtain ⟨_, e5, rfl⟩ := hf 5 _ 67 rfl rfl
          obtain ⟨_, e6, rfl⟩ := hf 6 _ 68 rfl rfl
          obtain ⟨_, e7, rfl⟩ := hf 7 _ 69 rfl rfl
          obtain ⟨_, e8, rfl⟩ := hf 8 _ 70 rfl rfl
          obtain ⟨_, e9, rfl⟩ := hf 9 _ 71 rfl rfl
          obtain ⟨_, e10, rfl⟩ := hf 10 _ 72 rfl rfl
          obtain ⟨_, e11, rfl⟩ := hf 11 _ 73 rfl rfl
          obtain ⟨_, e12, rfl⟩ := hf 12 _ 74 rfl rfl
          obtain ⟨_, e13, rfl⟩ := hf 13 _ 75 rfl rfl
          obtain ⟨_, e14, rfl⟩ := hf 14 _ 76 rfl rfl
          obtain ⟨_, e15, rfl⟩ := hf 15 _ 77 rfl rfl
          obtain ⟨_, e16, rfl⟩ := hf 16 _ 78 rfl rfl
          obtain ⟨_, e17, rfl⟩ := hf 17 _ 79 rfl rfl
          obtain ⟨_, e18, rfl⟩ := hf 18 _ 80 rfl rfl
          obtain ⟨_, e19, rfl⟩ := hf 19 _ 81 rfl rfl
          obtain ⟨v20, e20, f20⟩ := hf 20 _ 82 rfl rfl
          obtain rfl : undef = v20 := Eq.symm f20
          obtain ⟨v21, e21, f21⟩ := hf 21 _ 83 rfl rfl
          obtain rfl : undef = v21 := Eq.symm f21
          obtain ⟨v22, e22, f22⟩ := hf 22 _ 84 rfl rfl
          obtain rfl : undef = v22 := Eq.symm f22
          obtain ⟨v23, e23, f23⟩ := hf 23 _ 85 rfl rfl
          obtain rfl : undef = v23 := Eq.symm f23
          obtain ⟨v24, e24, f24⟩ := hf 24 _ 86 rfl rfl
          obtain rfl : undef = v24 := Eq.symm f24
          obtain ⟨v25, e25, f25⟩ := hf 25 _ 87 rfl rfl
          obtain rfl : undef = v25 := Eq.symm f25
          obtain ⟨v26, e26, f26⟩ := hf 26 _ 88 rfl rfl
          obtain rfl : undef = v26 := Eq.symm f26
          obtain ⟨v27, e27, f27⟩ := hf 27 _ 89 rfl rfl
          obtain rfl : undef = v27 := Eq.symm f27
          obtain ⟨v28, e28, f28⟩ := hf 28 _ 90 rfl rfl
          obtain rfl : undef = v28 := Eq.symm f28
          obtain ⟨v29, e29, f29⟩ := hf 29 _ 91 rfl rfl
          obtain rfl : undef = v29 := Eq.symm f29
          obtain ⟨v30, e30, f30⟩ := hf 30 _ 92 rfl rfl
          obtain rfl : undef = v30 := Eq.symm f30
          obtain ⟨v31, e31, f31⟩ := hf 31 _ 93 rfl rfl
          obtain rfl : undef = v31 := Eq.symm f31
          obtain ⟨v32, e32, f32⟩ := hf 32 _ 94 rfl rfl
          obtain rfl : undef = v32 := Eq.symm f32
          obtain ⟨v33, e33, f33⟩ := hf 33 _ 95 rfl rfl
          obtain rfl : undef = v33 := Eq.symm f33
          obtain ⟨v34, e34, f34⟩ := hf 34 _ 96 rfl rfl
          obtain rfl : undef = v34 := Eq.symm f34
          obtain ⟨v35, e35, f35⟩ := hf 35 _ 97 rfl rfl
          obtain rfl : undef = v35 := Eq.symm f35
          obtain ⟨v36, e36, f36⟩ := hf 36 _ 98 rfl rfl
          obtain rfl : undef = v36 := Eq.symm f36
          obtain ⟨v37, e37, f37⟩ := hf 37 _ 99 rfl rfl
          obtain rfl : undef = v37 := Eq.symm f37
          obtain ⟨v38, e38, f38⟩ := hf 38 _ 100 rfl rfl
          obtain rfl : undef = v38 := Eq.symm f38
          obtain ⟨v39, e39, f39⟩ := hf 39 _ 101 rfl rfl
          obtain rfl : undef = v39 := Eq.symm f39
          obtain ⟨v40, e40, f40⟩ := hf 40 _ 102 rfl rfl
          obtain rfl : undef = v40 := Eq.symm f40
          obtain ⟨v41, e41, f41⟩ := hf 41 _ 103 rfl rfl
          obtain rfl : undef = v41 := Eq.symm f41
          obtain ⟨_, e42, rfl⟩ := hf 42 _ 104 rfl rfl
          obtain ⟨_, e43, rfl⟩ := hf 43 _ 105 rfl rfl
          obtain ⟨_, e44, rfl⟩ := hf 44 _ 106 rfl rfl
          obtain ⟨_, e45, rfl⟩ := hf 45 _ 107 rfl rfl
          obtain ⟨_, e46, rfl⟩ := hf 46 _ 108 rfl rfl
          obtain ⟨_, e47, rfl⟩ := hf 47 _ 109 rfl rfl
          obtain ⟨_, e48, rfl⟩ := hf 48 _ 110 rfl rfl
          obtain ⟨_, e49, rfl⟩ := hf 49 _ 111 rfl rfl
          obtain ⟨_, e50, rfl⟩ := hf 50 _ 112 rfl rfl
          obtain ⟨_, e51, rfl⟩ := hf 51 _ 113 rfl rfl
          obtain ⟨_, e52, rfl⟩ := hf 52 _ 114 rfl rfl
          obtain ⟨_, e53, rfl⟩ := hf 53 _ 115 rfl rfl
          obtain ⟨_, e54, rfl⟩ := hf 54 _ 116 rfl rfl
          obtain ⟨_, e55, rfl⟩ := hf 55 _ 117 rfl rfl
          obtain ⟨v56, e56, f56⟩ := hf 56 _ 118 rfl rfl
          obtain rfl : undef = v56 := Eq.symm f56
          obtain ⟨v57, e57, f57⟩ := hf 57 _ 119 rfl rfl
          obtain rfl : undef = v57 := Eq.symm f57
          obtain ⟨v58, e58, f58⟩ := hf 58 _ 120 rfl rfl
          obtain rfl : undef = v58 := Eq.symm f58
          obtain ⟨v59, e59, f59⟩ := hf 59 _ 121 rfl rfl
          obtain rfl : undef = v59 := Eq.symm f59
          obtain ⟨v60, e60, f60⟩ := hf 60 _ 122 rfl rfl
          obtain rfl : undef = v60 := Eq.symm f60
          obtain ⟨v61, e61, f61⟩ := hf 61 _ 123 rfl rfl
          obtain rfl : undef = v61 := Eq.symm f61
          obtain ⟨v62, e62, f62⟩ := hf 62 _ 124 rfl rfl
          obtain rfl : undef = v62 := Eq.symm f62
          obtain ⟨v63, e63, f63⟩ := hf 63 _ 125 rfl rfl
          obtain rfl : undef = v63 := Eq.symm f63
          obtain ⟨_, e64, rfl⟩ := hf 64 _ 126 rfl rfl
          obtain ⟨_, e65, rfl⟩ := hf 65 _ 127 rfl rfl
          obtain ⟨_, e66, rfl⟩ := hf 66 _ 128 rfl rfl
          obtain ⟨_, e67, rfl⟩ := hf 67 _ 129 rfl rfl
          obtain ⟨_, e68, rfl⟩ := hf 68 _ 130 rfl rfl
          obtain ⟨_, e69, rfl⟩ := hf 69 _ 131 rfl rfl
          obtain ⟨_, e70, rfl⟩ := hf 70 _ 132 rfl rfl
          obtain ⟨_, e71, rfl⟩ := hf 71 _ 133 rfl rfl
          obtain ⟨_, e72, rfl⟩ := hf 72 _ 134 rfl rfl
          obtain ⟨_, e73, rfl⟩ := hf 73 _ 135 rfl rfl
          obtain ⟨_, e74, rfl⟩ := hf 74 _ 136 rfl rfl
          obtain ⟨_, e75, rfl⟩ := hf 75 _ 137 rfl rfl
          obtain ⟨_, e76, rfl⟩ := hf 76 _ 138 rfl rfl
          obtain ⟨_, e77, rfl⟩ := hf 77 _ 139 rfl rfl
          obtain ⟨_, e78, rfl⟩ := hf 78 _ 140 rfl rfl
          obtain ⟨_, e79, rfl⟩ := hf 79 _ 141 rfl rfl
          obtain ⟨_, e80, rfl⟩ := hf 80 _ 142 rfl rfl
          obtain ⟨_, e81, rfl⟩ := hf 81 _ 143 rfl rfl
          obtain ⟨_, e82, rfl⟩ := hf 82 _ 144 rfl rfl
          rw [hoff.sets [(62, .pointer (some ⟨kp, 0, none⟩)), (63, .string p.from'), (64, .pointer (some ⟨kp, 1, none⟩)), (65, .string p.to'), (66, .bool false), (67, .bool false), (68, .pointer (some ⟨kr, 2, none⟩)), (69, .slice (some ⟨zb, zo, none⟩) r.args.length xc), (70, .pointer (some ⟨zb, zo, none⟩)), (71, .pointer (some ⟨zb, zo + 1, none⟩)), (72, .string p.head), (73, .pointer (some ⟨kp, 2, none⟩)), (74, .string p.head), (75, .bool false), (76, .bool false), (77, .bool false), (78, .pointer (some ⟨kp, 1, none⟩)), (79, .string p.to'), (80, .bool false), (81, .bool false), (82, undef), (83, undef), (84, undef), (85, undef), (86, undef), (87, undef), (88, undef), (89, undef), (90, undef), (91, undef), (92, undef), (93, undef), (94, undef), (95, undef), (96, undef), (97, undef), (98, undef), (99, undef), (100, undef), (101, undef), (102, undef), (103, undef), (104, .bool false), (105, .bool false), (106, .bool false), (107, .pointer (some ⟨kp, 1, none⟩)), (108, .string p.to'), (109, .bool true), (110, .bool true), (111, .pointer (some ⟨kp, 2, none⟩)), (112, .string p.head), (113, .pointer (some ⟨kp, 0, none⟩)), (114, .string p.from'), (115, .bool false), (116, .bool false), (117, .bool false), (118, undef), (119, undef), (120, undef), (121, undef), (122, undef), (123, undef), (124, undef), (125, undef), (126, .bool false), (127, .bool false), (128, .bool false), (129, .pointer (some ⟨kr, 3, none⟩)), (130, .string r.agg), (131, .bool true), (132, .bool true), (133, .pointer (some ⟨kp, 1, none⟩)), (134, .string p.to'), (135, .bool false), (136, .bool false), (137, .pointer (some ⟨kp, 2, none⟩)), (138, .string p.head), (139, .pointer (some ⟨kp, 0, none⟩)), (140, .string p.from'), (141, .bool false), (142, .bool false), (143, .bool false), (144, .bool false)] (by kernel_rfl) (by intro p hp; simp only [List.mem_cons, List.not_mem_nil, or_false] at hp; rcases hp with rfl | rfl | rfl | rfl | rfl | rfl | rfl | rfl | rfl | rfl | rfl | rfl | rfl | rfl | rfl | rfl | rfl | rfl | rfl | rfl | rfl | rfl | rfl | rfl | rfl | rfl | rfl | rfl | rfl | rfl | rfl | rfl | rfl | rfl | rfl | rfl | rfl | rfl | rfl | rfl | rfl | rfl | rfl | rfl | rfl | rfl | rfl | rfl | rfl | rfl | rfl | rfl | rfl | rfl | rfl | rfl | rfl | rfl | rfl | rfl | rfl | rfl | rfl | rfl | rfl | rfl | rfl | rfl | rfl | rfl | rfl | rfl | rfl | rfl | rfl | rfl | rfl | rfl | rfl | rfl | rfl | rfl | rfl <;> assumption)]
          clear hoff hf e0 e1 e2 e3 e4 e5 e6 e7 e8 e9 e10 e11 e12 e13 e14 e15 e16 e17 e18 e19 e20 e21 e22 e23 e24 e25 e26 e27 e28 e29 e30 e31 e32 e33 e34 e35 e36 e37 e38 e39 e40 e41 e42 e43 e44 e45 e46 e47 e48 e49 e50 e51 e52 e53 e54 e55 e56 e57 e58 e59 e60 e61 e62 e63 e64 e65 e66 e67 e68 e69 e70 e71 e72 e73 e74 e75 e76 e77 e78 e79 e80 e81 e82
          simp only [List.foldl_cons, List.foldl_nil, List.setIfInBounds_toArray, List.set_cons_zero, List.set_cons_succ]
          have BZ := Lib.hid (Below.step BN.out hg)
          clear hg
          go_wp2_with fail
          go_roundw
          case rel => exact ⟨k + 1, HKL.out, by have := HKL.out; have := HLN.out; rw [show wrap64 ((k : Int) + 1) = ((k + 1 : Nat) : Int) by unfold wrap64; omega], Below.step hbel.out (Below.step B7.out BZ.out)⟩
          case measure => have := HKL.out; have := HLN.out; rw [show wrap64 ((k : Int) + 1) = ((k + 1 : Nat) : Int) by unfold wrap64; omega]; simp only [intOf]; omega
       ·have hd : (p.head.toList == p.from'.toList) = false := by
         rw [Bool.eq_false_iff]; intro e; rw [beq_iff_eq, Lib.toList_data, Lib.toList_data] at e; exact hdd (ByteArray.ext (Array.toList_inj.1 e))
        have HLK := Lib.hid ((HRD.out.2.2.2.2.1 (by omega)).resolve_left hdd)
        have hag : (r.agg.toList == []) = true := by
         rcases HRD.out.2.2.2.2.2.1 with h | h
         ·rw [← h]; cases r.agg.toList <;> rfl
         ·exact absurd h.2 hdd
        clear hto hdd
        refine wp_region_factsG (by rfl) 146 (by rfl) (by kernel_rfl) (FA [.e (.pointer (some ⟨kp, 0, none⟩)), .e (.string p.from'), .e (.pointer (some ⟨kp, 1, none⟩)), .e (.string p.to'), .e (.bool false), .e (.bool false), .e (.pointer (some ⟨kr, 2, none⟩)), .e (.slice (some ⟨zb, zo, none⟩) r.args.length xc), .e (.pointer (some ⟨zb, zo, none⟩)), .e (.pointer (some ⟨zb, zo + 1, none⟩)), .e (.string p.head), .e (.pointer (some ⟨kp, 2, none⟩)), .e (.string p.head), .e (.bool false), .e (.bool false), .e (.bool false), .e (.pointer (some ⟨kp, 1, none⟩)), .e (.string p.to'), .e (.bool false), .e (.bool false), .e undef, .e undef, .e undef, .e undef, .e undef, .e undef, .e undef, .e undef, .e undef, .e undef, .e undef, .e undef, .e undef, .e undef, .e undef, .e undef, .e undef, .e undef, .e undef, .e undef, .e undef, .e undef, .e (.bool false), .e (.bool false), .e (.bool false), .e (.pointer (some ⟨kp, 1, none⟩)), .e (.string p.to'), .e (.bool true), .e (.bool true), .e (.pointer (some ⟨kp, 2, none⟩)), .e (.string p.head), .e (.pointer (some ⟨kp, 0, none⟩)), .e (.string p.from'), .e (.bool true), .e (.bool true), .e (.bool true), .e (.pointer (some ⟨kr, 5, none⟩)), .e (.slice ya r.body.length yc), .e (.pointer (some ⟨kp, 0, none⟩)), .e (.string p.from'), .e (.pointer (some ⟨kp, 2, none⟩)), .e (.string p.head), .e (.bool true), .e (.bool false), .e (.bool false), .e (.bool false), .e (.bool false), .e (.pointer (some ⟨kr, 3, none⟩)), .e (.string r.agg), .e (.bool false), .e (.bool false), .e undef, .e undef, .e undef, .e undef, .e undef, .e undef, .e undef, .e undef, .e undef, .e undef, .e (.bool false), .e (.bool false)]) (fun w' => Below wr.heap.size wr w') (Below.drew (Below.refl _ _)) ⟨?s0, ?s1, ?s2, ?s3, ?s4, ?s5, ?s6, ?s7, ?s8, ?s9, ?s10, ?s11, ?s12, ?s13, ?s14, ?s15, ?s16, ?s17, ?s18, ?s19, ?s20, ?s21, ?s22, ?s23, ?s24, ?s25, ?s26, ?s27, ?s28, ?s29, ?s30, ?s31, ?s32, ?s33, ?s34, ?s35, ?s36, ?s37, ?s38, ?s39, ?s40, ?s41, ?s42, ?s43, ?s44, ?s45, ?s46, ?s47, ?s48, ?s49, ?s50, ?s51, ?s52, ?s53, ?s54, ?s55, ?s56, ?s57, ?s58, ?s59, ?s60, ?s61, ?s62, ?s63, ?s64, ?s65, ?s66, ?s67, ?s68, ?s69, ?s70, ?s71, ?s72, ?s73, ?s74, ?s75, ?s76, ?s77, ?s78, ?s79, ?s80, ?s81, ?s82, trivial⟩ ?fin
        case s0 =>
         intro a w' hoff hg hdep K hK
         have h7 := off_at hoff 7 (v := .pointer (some ⟨kp, 0, none⟩)) (by kernel_rfl) rfl
         rw [if_pos (by rfl)]
         go_simp
         exact hK.out _ _ hg rfl (fun _ _ h => h)
        case s1 =>
         intro a w' hoff hg hdep K hK
         obtain ⟨_, e0, rfl⟩ := hdep 0 _ 62 (by kernel_rfl) rfl rfl
         rw [if_pos (by rfl)]
         obtain ⟨p0, p1, p2⟩ := (X7.out.on (Below.step BN.out hg)).cells
         go_simp
         exact hK.out _ _ hg rfl (fun _ _ h => h)
        case s2 =>
         intro a w' hoff hg hdep K hK
         have h7 := off_at hoff 7 (v := .pointer (some ⟨kp, 0, none⟩)) (by kernel_rfl) rfl
         rw [if_pos (by rfl)]
         go_simp
         exact hK.out _ _ hg rfl (fun _ _ h => h)
        case s3 =>
         intro a w' hoff hg hdep K hK
         obtain ⟨_, e2, rfl⟩ := hdep 2 _ 64 (by kernel_rfl) rfl rfl
         rw [if_pos (by rfl)]
         obtain ⟨p0, p1, p2⟩ := (X7.out.on (Below.step BN.out hg)).cells
         go_simp
         exact hK.out _ _ hg rfl (fun _ _ h => h)
        case s4 =>
         intro a w' hoff hg hdep K hK
         obtain ⟨_, e1, rfl⟩ := hdep 1 _ 63 (by kernel_rfl) rfl rfl
         obtain ⟨_, e3, rfl⟩ := hdep 3 _ 65 (by kernel_rfl) rfl rfl
         rw [if_pos (by rfl)]
         go_simp
         exact hK.out _ _ hg rfl (fun _ _ h => h)
        case s5 =>
         intro a w' hoff hg hdep K hK
         obtain ⟨_, e4, rfl⟩ := hdep 4 _ 66 (by kernel_rfl) rfl rfl
         rw [if_pos (by rfl)]
         go_simp
         exact hK.out _ _ hg rfl (fun _ _ h => h)
        case s6 =>
         intro a w' hoff hg hdep K hK
         have h6 := off_at hoff 6 (v := .pointer (some ⟨kr, 0, none⟩)) (by kernel_rfl) rfl
         obtain ⟨_, e5, rfl⟩ := hdep 5 _ 67 (by kernel_rfl) rfl rfl
         rw [if_pos (by simp [Region.wanted, yielded, e5])]
         go_simp
         exact hK.out _ _ hg rfl (fun _ _ h => h)
        case s7 =>
         intro a w' hoff hg hdep K hK
         obtain ⟨_, e6, rfl⟩ := hdep 6 _ 68 (by kernel_rfl) rfl rfl
         obtain ⟨_, e5, rfl⟩ := hdep 5 _ 67 (by kernel_rfl) rfl rfl
         rw [if_pos (by simp [Region.wanted, yielded, e5])]
         obtain ⟨o0, o1, o2, o3, o4, o5⟩ := (X6.out.on (Below.step BN.out hg)).cells
         go_simp
         exact hK.out _ _ hg rfl (fun _ _ h => h)
        case s8 =>
         intro a w' hoff hg hdep K hK
         obtain ⟨_, e7, rfl⟩ := hdep 7 _ 69 (by kernel_rfl) rfl rfl
         obtain ⟨_, e5, rfl⟩ := hdep 5 _ 67 (by kernel_rfl) rfl rfl
         rw [if_pos (by simp [Region.wanted, yielded, e5])]
         go_simp
         exact hK.out _ _ hg rfl (fun _ _ h => h)
        case s9 =>
         intro a w' hoff hg hdep K hK
         obtain ⟨_, e8, rfl⟩ := hdep 8 _ 70 (by kernel_rfl) rfl rfl
         obtain ⟨_, e5, rfl⟩ := hdep 5 _ 67 (by kernel_rfl) rfl rfl
         rw [if_pos (by simp [Region.wanted, yielded, e5])]
         go_simp
         exact hK.out _ _ hg rfl (fun _ _ h => h)
        case s10 =>
         intro a w' hoff hg hdep K hK
         obtain ⟨_, e9, rfl⟩ := hdep 9 _ 71 (by kernel_rfl) rfl rfl
         obtain ⟨_, e5, rfl⟩ := hdep 5 _ 67 (by kernel_rfl) rfl rfl
         rw [if_pos (by simp [Region.wanted, yielded, e5])]
         have m1 := (hg.cell (p := ⟨zb, zo + 1, none⟩) ZB.out).trans Z1.out
         go_simp
         exact hK.out _ _ hg rfl (fun _ _ h => h)
        case s11 =>
         intro a w' hoff hg hdep K hK
         have h7 := off_at hoff 7 (v := .pointer (some ⟨kp, 0, none⟩)) (by kernel_rfl) rfl
         obtain ⟨_, e5, rfl⟩ := hdep 5 _ 67 (by kernel_rfl) rfl rfl
         rw [if_pos (by simp [Region.wanted, yielded, e5])]
         go_simp
         exact hK.out _ _ hg rfl (fun _ _ h => h)
        case s12 =>
         intro a w' hoff hg hdep K hK
         obtain ⟨_, e11, rfl⟩ := hdep 11 _ 73 (by kernel_rfl) rfl rfl
         obtain ⟨_, e5, rfl⟩ := hdep 5 _ 67 (by kernel_rfl) rfl rfl
         rw [if_pos (by simp [Region.wanted, yielded, e5])]
         obtain ⟨p0, p1, p2⟩ := (X7.out.on (Below.step BN.out hg)).cells
         go_simp
         exact hK.out _ _ hg rfl (fun _ _ h => h)
        case s13 =>
         intro a w' hoff hg hdep K hK
         obtain ⟨_, e10, rfl⟩ := hdep 10 _ 72 (by kernel_rfl) rfl rfl
         obtain ⟨_, e12, rfl⟩ := hdep 12 _ 74 (by kernel_rfl) rfl rfl
         obtain ⟨_, e5, rfl⟩ := hdep 5 _ 67 (by kernel_rfl) rfl rfl
         rw [if_pos (by simp [Region.wanted, yielded, e5])]
         go_simp
         exact hK.out _ _ hg rfl (fun _ _ h => h)
        case s14 =>
         intro a w' hoff hg hdep K hK
         obtain ⟨_, e5, rfl⟩ := hdep 5 _ 67 (by kernel_rfl) rfl rfl
         obtain ⟨_, e13, rfl⟩ := hdep 13 _ 75 (by kernel_rfl) rfl rfl
         rw [if_pos (by rfl)]
         go_simp
         exact hK.out _ _ hg rfl (fun _ _ h => h)
        case s15 =>
         intro a w' hoff hg hdep K hK
         obtain ⟨_, e14, rfl⟩ := hdep 14 _ 76 (by kernel_rfl) rfl rfl
         rw [if_pos (by rfl)]
         go_simp
         exact hK.out _ _ hg rfl (fun _ _ h => h)
        case s16 =>
         intro a w' hoff hg hdep K hK
         have h7 := off_at hoff 7 (v := .pointer (some ⟨kp, 0, none⟩)) (by kernel_rfl) rfl
         obtain ⟨_, e15, rfl⟩ := hdep 15 _ 77 (by kernel_rfl) rfl rfl
         rw [if_pos (by simp [Region.wanted, yielded, e15])]
         go_simp
         exact hK.out _ _ hg rfl (fun _ _ h => h)
        case s17 =>
         intro a w' hoff hg hdep K hK
         obtain ⟨_, e16, rfl⟩ := hdep 16 _ 78 (by kernel_rfl) rfl rfl
         obtain ⟨_, e15, rfl⟩ := hdep 15 _ 77 (by kernel_rfl) rfl rfl
         rw [if_pos (by simp [Region.wanted, yielded, e15])]
         obtain ⟨p0, p1, p2⟩ := (X7.out.on (Below.step BN.out hg)).cells
         go_simp
         exact hK.out _ _ hg rfl (fun _ _ h => h)
        case s18 =>
         intro a w' hoff hg hdep K hK
         obtain ⟨_, e17, rfl⟩ := hdep 17 _ 79 (by kernel_rfl) rfl rfl
         obtain ⟨_, e15, rfl⟩ := hdep 15 _ 77 (by kernel_rfl) rfl rfl
         rw [if_pos (by simp [Region.wanted, yielded, e15])]
         go_simp
         exact hK.out _ _ hg rfl (fun _ _ h => h)
        case s19 =>
         intro a w' hoff hg hdep K hK
         obtain ⟨_, e18, rfl⟩ := hdep 18 _ 80 (by kernel_rfl) rfl rfl
         obtain ⟨_, e15, rfl⟩ := hdep 15 _ 77 (by kernel_rfl) rfl rfl
         rw [if_pos (by simp [Region.wanted, yielded, e15])]
         go_simp
         exact hK.out _ _ hg rfl (fun _ _ h => h)
        case s20 =>
         intro a w' hoff hg hdep K hK
         have h6 := off_at hoff 6 (v := .pointer (some ⟨kr, 0, none⟩)) (by kernel_rfl) rfl
         obtain ⟨_, e19, rfl⟩ := hdep 19 _ 81 (by kernel_rfl) rfl rfl
         rw [if_neg (by simp [Region.wanted, yielded, e19])]
         exact hK.out _ _ hg rfl (fun _ _ h => h)
        case s21 =>
         intro a w' hoff hg hdep K hK
         obtain ⟨v20, e20, f20⟩ := hdep 20 _ 82 (by kernel_rfl) rfl rfl
         obtain rfl : undef = v20 := Eq.symm f20
         obtain ⟨_, e19, rfl⟩ := hdep 19 _ 81 (by kernel_rfl) rfl rfl
         rw [if_neg (by simp [Region.wanted, yielded, e19])]
         exact hK.out _ _ hg rfl (fun _ _ h => h)
        case s22 =>
         intro a w' hoff hg hdep K hK
         have h7 := off_at hoff 7 (v := .pointer (some ⟨kp, 0, none⟩)) (by kernel_rfl) rfl
         obtain ⟨_, e19, rfl⟩ := hdep 19 _ 81 (by kernel_rfl) rfl rfl
         rw [if_neg (by simp [Region.wanted, yielded, e19])]
         exact hK.out _ _ hg rfl (fun _ _ h => h)
        case s23 =>
         intro a w' hoff hg hdep K hK
         obtain ⟨v22, e22, f22⟩ := hdep 22 _ 84 (by kernel_rfl) rfl rfl
         obtain rfl : undef = v22 := Eq.symm f22
         obtain ⟨_, e19, rfl⟩ := hdep 19 _ 81 (by kernel_rfl) rfl rfl
         rw [if_neg (by simp [Region.wanted, yielded, e19])]
         exact hK.out _ _ hg rfl (fun _ _ h => h)
        case s24 =>
         intro a w' hoff hg hdep K hK
         have h7 := off_at hoff 7 (v := .pointer (some ⟨kp, 0, none⟩)) (by kernel_rfl) rfl
         obtain ⟨_, e19, rfl⟩ := hdep 19 _ 81 (by kernel_rfl) rfl rfl
         rw [if_neg (by simp [Region.wanted, yielded, e19])]
         exact hK.out _ _ hg rfl (fun _ _ h => h)
        case s25 =>
         intro a w' hoff hg hdep K hK
         obtain ⟨v24, e24, f24⟩ := hdep 24 _ 86 (by kernel_rfl) rfl rfl
         obtain rfl : undef = v24 := Eq.symm f24
         obtain ⟨_, e19, rfl⟩ := hdep 19 _ 81 (by kernel_rfl) rfl rfl
         rw [if_neg (by simp [Region.wanted, yielded, e19])]
         exact hK.out _ _ hg rfl (fun _ _ h => h)
        case s26 =>
         intro a w' hoff hg hdep K hK
         obtain ⟨v21, e21, f21⟩ := hdep 21 _ 83 (by kernel_rfl) rfl rfl
         obtain rfl : undef = v21 := Eq.symm f21
         obtain ⟨v23, e23, f23⟩ := hdep 23 _ 85 (by kernel_rfl) rfl rfl
         obtain rfl : undef = v23 := Eq.symm f23
         obtain ⟨v25, e25, f25⟩ := hdep 25 _ 87 (by kernel_rfl) rfl rfl
         obtain rfl : undef = v25 := Eq.symm f25
         obtain ⟨_, e19, rfl⟩ := hdep 19 _ 81 (by kernel_rfl) rfl rfl
         rw [if_neg (by simp [Region.wanted, yielded, e19])]
         exact hK.out _ _ hg rfl (fun _ _ h => h)
        case s27 =>
         intro a w' hoff hg hdep K hK
         obtain ⟨v26, e26, f26⟩ := hdep 26 _ 88 (by kernel_rfl) rfl rfl
         obtain rfl : undef = v26 := Eq.symm f26
         obtain ⟨_, e19, rfl⟩ := hdep 19 _ 81 (by kernel_rfl) rfl rfl
         rw [if_neg (by simp [Region.wanted, yielded, e19])]
         exact hK.out _ _ hg rfl (fun _ _ h => h)
        case s28 =>
         intro a w' hoff hg hdep K hK
         obtain ⟨v27, e27, f27⟩ := hdep 27 _ 89 (by kernel_rfl) rfl rfl
         obtain rfl : undef = v27 := Eq.symm f27
         obtain ⟨_, e19, rfl⟩ := hdep 19 _ 81 (by kernel_rfl) rfl rfl
         rw [if_neg (by simp [Region.wanted, yielded, e19])]
         exact hK.out _ _ hg rfl (fun _ _ h => h)
        case s29 =>
         intro a w' hoff hg hdep K hK
         have h7 := off_at hoff 7 (v := .pointer (some ⟨kp, 0, none⟩)) (by kernel_rfl) rfl
         obtain ⟨v28, e28, f28⟩ := hdep 28 _ 90 (by kernel_rfl) rfl rfl
         obtain rfl : undef = v28 := Eq.symm f28
         rw [if_neg (by simp [Region.wanted, yielded, e28, undef])]
         exact hK.out _ _ hg rfl (fun _ _ h => h)
        case s30 =>
         intro a w' hoff hg hdep K hK
         obtain ⟨v29, e29, f29⟩ := hdep 29 _ 91 (by kernel_rfl) rfl rfl
         obtain rfl : undef = v29 := Eq.symm f29
         obtain ⟨v28, e28, f28⟩ := hdep 28 _ 90 (by kernel_rfl) rfl rfl
         obtain rfl : undef = v28 := Eq.symm f28
         rw [if_neg (by simp [Region.wanted, yielded, e28, undef])]
         exact hK.out _ _ hg rfl (fun _ _ h => h)
        case s31 =>
         intro a w' hoff hg hdep K hK
         have h7 := off_at hoff 7 (v := .pointer (some ⟨kp, 0, none⟩)) (by kernel_rfl) rfl
         obtain ⟨v28, e28, f28⟩ := hdep 28 _ 90 (by kernel_rfl) rfl rfl
         obtain rfl : undef = v28 := Eq.symm f28
         rw [if_neg (by simp [Region.wanted, yielded, e28, undef])]
         exact hK.out _ _ hg rfl (fun _ _ h => h)
        case s32 =>
         intro a w' hoff hg hdep K hK
         obtain ⟨v31, e31, f31⟩ := hdep 31 _ 93 (by kernel_rfl) rfl rfl
         obtain rfl : undef = v31 := Eq.symm f31
         obtain ⟨v28, e28, f28⟩ := hdep 28 _ 90 (by kernel_rfl) rfl rfl
         obtain rfl : undef = v28 := Eq.symm f28
         rw [if_neg (by simp [Region.wanted, yielded, e28, undef])]
         exact hK.out _ _ hg rfl (fun _ _ h => h)
        case s33 =>
         intro a w' hoff hg hdep K hK
         obtain ⟨v30, e30, f30⟩ := hdep 30 _ 92 (by kernel_rfl) rfl rfl
         obtain rfl : undef = v30 := Eq.symm f30
         obtain ⟨v32, e32, f32⟩ := hdep 32 _ 94 (by kernel_rfl) rfl rfl
         obtain rfl : undef = v32 := Eq.symm f32
         obtain ⟨v28, e28, f28⟩ := hdep 28 _ 90 (by kernel_rfl) rfl rfl
         obtain rfl : undef = v28 := Eq.symm f28
         rw [if_neg (by simp [Region.wanted, yielded, e28, undef])]
         exact hK.out _ _ hg rfl (fun _ _ h => h)
        case s34 =>
         intro a w' hoff hg hdep K hK
         obtain ⟨v33, e33, f33⟩ := hdep 33 _ 95 (by kernel_rfl) rfl rfl
         obtain rfl : undef = v33 := Eq.symm f33
         obtain ⟨v28, e28, f28⟩ := hdep 28 _ 90 (by kernel_rfl) rfl rfl
         obtain rfl : undef = v28 := Eq.symm f28
         rw [if_neg (by simp [Region.wanted, yielded, e28, undef])]
         exact hK.out _ _ hg rfl (fun _ _ h => h)
        case s35 =>
         intro a w' hoff hg hdep K hK
         have h7 := off_at hoff 7 (v := .pointer (some ⟨kp, 0, none⟩)) (by kernel_rfl) rfl
         obtain ⟨v34, e34, f34⟩ := hdep 34 _ 96 (by kernel_rfl) rfl rfl
         obtain rfl : undef = v34 := Eq.symm f34
         rw [if_neg (by simp [Region.wanted, yielded, e34, undef])]
         exact hK.out _ _ hg rfl (fun _ _ h => h)
        case s36 =>
         intro a w' hoff hg hdep K hK
         obtain ⟨v35, e35, f35⟩ := hdep 35 _ 97 (by kernel_rfl) rfl rfl
         obtain rfl : undef = v35 := Eq.symm f35
         obtain ⟨v34, e34, f34⟩ := hdep 34 _ 96 (by kernel_rfl) rfl rfl
         obtain rfl : undef = v34 := Eq.symm f34
         rw [if_neg (by simp [Region.wanted, yielded, e34, undef])]
         exact hK.out _ _ hg rfl (fun _ _ h => h)
        case s37 =>
         intro a w' hoff hg hdep K hK
         have h7 := off_at hoff 7 (v := .pointer (some ⟨kp, 0, none⟩)) (by kernel_rfl) rfl
         obtain ⟨v34, e34, f34⟩ := hdep 34 _ 96 (by kernel_rfl) rfl rfl
         obtain rfl : undef = v34 := Eq.symm f34
         rw [if_neg (by simp [Region.wanted, yielded, e34, undef])]
         exact hK.out _ _ hg rfl (fun _ _ h => h)
        case s38 =>
         intro a w' hoff hg hdep K hK
         obtain ⟨v37, e37, f37⟩ := hdep 37 _ 99 (by kernel_rfl) rfl rfl
         obtain rfl : undef = v37 := Eq.symm f37
         obtain ⟨v34, e34, f34⟩ := hdep 34 _ 96 (by kernel_rfl) rfl rfl
         obtain rfl : undef = v34 := Eq.symm f34
         rw [if_neg (by simp [Region.wanted, yielded, e34, undef])]
         exact hK.out _ _ hg rfl (fun _ _ h => h)
        case s39 =>
         intro a w' hoff hg hdep K hK
         obtain ⟨v36, e36, f36⟩ := hdep 36 _ 98 (by kernel_rfl) rfl rfl
         obtain rfl : undef = v36 := Eq.symm f36
         obtain ⟨v38, e38, f38⟩ := hdep 38 _ 100 (by kernel_rfl) rfl rfl
         obtain rfl : undef = v38 := Eq.symm f38
         obtain ⟨v34, e34, f34⟩ := hdep 34 _ 96 (by kernel_rfl) rfl rfl
         obtain rfl : undef = v34 := Eq.symm f34
         rw [if_neg (by simp [Region.wanted, yielded, e34, undef])]
         exact hK.out _ _ hg rfl (fun _ _ h => h)
        case s40 =>
         intro a w' hoff hg hdep K hK
         obtain ⟨v34, e34, f34⟩ := hdep 34 _ 96 (by kernel_rfl) rfl rfl
         obtain rfl : undef = v34 := Eq.symm f34
         obtain ⟨v39, e39, f39⟩ := hdep 39 _ 101 (by kernel_rfl) rfl rfl
         obtain rfl : undef = v39 := Eq.symm f39
         obtain ⟨v28, e28, f28⟩ := hdep 28 _ 90 (by kernel_rfl) rfl rfl
         obtain rfl : undef = v28 := Eq.symm f28
         rw [if_neg (by simp [Region.wanted, yielded, e28, undef])]
         exact hK.out _ _ hg rfl (fun _ _ h => h)
        case s41 =>
         intro a w' hoff hg hdep K hK
         obtain ⟨v28, e28, f28⟩ := hdep 28 _ 90 (by kernel_rfl) rfl rfl
         obtain rfl : undef = v28 := Eq.symm f28
         obtain ⟨v40, e40, f40⟩ := hdep 40 _ 102 (by kernel_rfl) rfl rfl
         obtain rfl : undef = v40 := Eq.symm f40
         obtain ⟨_, e19, rfl⟩ := hdep 19 _ 81 (by kernel_rfl) rfl rfl
         rw [if_neg (by simp [Region.wanted, yielded, e19])]
         exact hK.out _ _ hg rfl (fun _ _ h => h)
        case s42 =>
         intro a w' hoff hg hdep K hK
         obtain ⟨_, e19, rfl⟩ := hdep 19 _ 81 (by kernel_rfl) rfl rfl
         obtain ⟨v41, e41, f41⟩ := hdep 41 _ 103 (by kernel_rfl) rfl rfl
         obtain rfl : undef = v41 := Eq.symm f41
         obtain ⟨_, e15, rfl⟩ := hdep 15 _ 77 (by kernel_rfl) rfl rfl
         rw [if_pos (by simp [Region.wanted, yielded, e15])]
         go_simp
         exact hK.out _ _ hg rfl (fun _ _ h => h)
        case s43 =>
         intro a w' hoff hg hdep K hK
         obtain ⟨_, e15, rfl⟩ := hdep 15 _ 77 (by kernel_rfl) rfl rfl
         obtain ⟨_, e42, rfl⟩ := hdep 42 _ 104 (by kernel_rfl) rfl rfl
         rw [if_pos (by rfl)]
         go_simp
         exact hK.out _ _ hg rfl (fun _ _ h => h)
        case s44 =>
         intro a w' hoff hg hdep K hK
         obtain ⟨_, e43, rfl⟩ := hdep 43 _ 105 (by kernel_rfl) rfl rfl
         rw [if_pos (by rfl)]
         go_simp
         exact hK.out _ _ hg rfl (fun _ _ h => h)
        case s45 =>
         intro a w' hoff hg hdep K hK
         have h7 := off_at hoff 7 (v := .pointer (some ⟨kp, 0, none⟩)) (by kernel_rfl) rfl
         obtain ⟨_, e44, rfl⟩ := hdep 44 _ 106 (by kernel_rfl) rfl rfl
         rw [if_pos (by simp [Region.wanted, yielded, e44])]
         go_simp
         exact hK.out _ _ hg rfl (fun _ _ h => h)
        case s46 =>
         intro a w' hoff hg hdep K hK
         obtain ⟨_, e45, rfl⟩ := hdep 45 _ 107 (by kernel_rfl) rfl rfl
         obtain ⟨_, e44, rfl⟩ := hdep 44 _ 106 (by kernel_rfl) rfl rfl
         rw [if_pos (by simp [Region.wanted, yielded, e44])]
         obtain ⟨p0, p1, p2⟩ := (X7.out.on (Below.step BN.out hg)).cells
         go_simp
         exact hK.out _ _ hg rfl (fun _ _ h => h)
        case s47 =>
         intro a w' hoff hg hdep K hK
         obtain ⟨_, e46, rfl⟩ := hdep 46 _ 108 (by kernel_rfl) rfl rfl
         obtain ⟨_, e44, rfl⟩ := hdep 44 _ 106 (by kernel_rfl) rfl rfl
         rw [if_pos (by simp [Region.wanted, yielded, e44])]
         go_simp
         exact hK.out _ _ hg rfl (fun _ _ h => h)
        case s48 =>
         intro a w' hoff hg hdep K hK
         obtain ⟨_, e47, rfl⟩ := hdep 47 _ 109 (by kernel_rfl) rfl rfl
         obtain ⟨_, e44, rfl⟩ := hdep 44 _ 106 (by kernel_rfl) rfl rfl
         rw [if_pos (by simp [Region.wanted, yielded, e44])]
         go_simp
         exact hK.out _ _ hg rfl (fun _ _ h => h)
        case s49 =>
         intro a w' hoff hg hdep K hK
         have h7 := off_at hoff 7 (v := .pointer (some ⟨kp, 0, none⟩)) (by kernel_rfl) rfl
         obtain ⟨_, e48, rfl⟩ := hdep 48 _ 110 (by kernel_rfl) rfl rfl
         rw [if_pos (by simp [Region.wanted, yielded, e48])]
         go_simp
         exact hK.out _ _ hg rfl (fun _ _ h => h)
        case s50 =>
         intro a w' hoff hg hdep K hK
         obtain ⟨_, e49, rfl⟩ := hdep 49 _ 111 (by kernel_rfl) rfl rfl
         obtain ⟨_, e48, rfl⟩ := hdep 48 _ 110 (by kernel_rfl) rfl rfl
         rw [if_pos (by simp [Region.wanted, yielded, e48])]
         obtain ⟨p0, p1, p2⟩ := (X7.out.on (Below.step BN.out hg)).cells
         go_simp
         exact hK.out _ _ hg rfl (fun _ _ h => h)
        case s51 =>
         intro a w' hoff hg hdep K hK
         have h7 := off_at hoff 7 (v := .pointer (some ⟨kp, 0, none⟩)) (by kernel_rfl) rfl
         obtain ⟨_, e48, rfl⟩ := hdep 48 _ 110 (by kernel_rfl) rfl rfl
         rw [if_pos (by simp [Region.wanted, yielded, e48])]
         go_simp
         exact hK.out _ _ hg rfl (fun _ _ h => h)
        case s52 =>
         intro a w' hoff hg hdep K hK
         obtain ⟨_, e51, rfl⟩ := hdep 51 _ 113 (by kernel_rfl) rfl rfl
         obtain ⟨_, e48, rfl⟩ := hdep 48 _ 110 (by kernel_rfl) rfl rfl
         rw [if_pos (by simp [Region.wanted, yielded, e48])]
         obtain ⟨p0, p1, p2⟩ := (X7.out.on (Below.step BN.out hg)).cells
         go_simp
         exact hK.out _ _ hg rfl (fun _ _ h => h)
        case s53 =>
         intro a w' hoff hg hdep K hK
         obtain ⟨_, e50, rfl⟩ := hdep 50 _ 112 (by kernel_rfl) rfl rfl
         obtain ⟨_, e52, rfl⟩ := hdep 52 _ 114 (by kernel_rfl) rfl rfl
         obtain ⟨_, e48, rfl⟩ := hdep 48 _ 110 (by kernel_rfl) rfl rfl
         rw [if_pos (by simp [Region.wanted, yielded, e48])]
         go_simp
         exact hK.out _ _ hg rfl (fun _ _ h => h)
        case s54 =>
         intro a w' hoff hg hdep K hK
         obtain ⟨_, e48, rfl⟩ := hdep 48 _ 110 (by kernel_rfl) rfl rfl
         obtain ⟨_, e53, rfl⟩ := hdep 53 _ 115 (by kernel_rfl) rfl rfl
         obtain ⟨_, e44, rfl⟩ := hdep 44 _ 106 (by kernel_rfl) rfl rfl
         rw [if_pos (by simp [Region.wanted, yielded, e44])]
         go_simp
         exact hK.out _ _ hg rfl (fun _ _ h => h)
        case s55 =>
         intro a w' hoff hg hdep K hK
         obtain ⟨_, e54, rfl⟩ := hdep 54 _ 116 (by kernel_rfl) rfl rfl
         obtain ⟨_, e44, rfl⟩ := hdep 44 _ 106 (by kernel_rfl) rfl rfl
         rw [if_pos (by simp [Region.wanted, yielded, e44])]
         go_simp
         exact hK.out _ _ hg rfl (fun _ _ h => h)
        case s56 =>
         intro a w' hoff hg hdep K hK
         have h6 := off_at hoff 6 (v := .pointer (some ⟨kr, 0, none⟩)) (by kernel_rfl) rfl
         obtain ⟨_, e55, rfl⟩ := hdep 55 _ 117 (by kernel_rfl) rfl rfl
         rw [if_pos (by simp [Region.wanted, yielded, e55])]
         go_simp
         exact hK.out _ _ hg rfl (fun _ _ h => h)
        case s57 =>
         intro a w' hoff hg hdep K hK
         obtain ⟨_, e56, rfl⟩ := hdep 56 _ 118 (by kernel_rfl) rfl rfl
         obtain ⟨_, e55, rfl⟩ := hdep 55 _ 117 (by kernel_rfl) rfl rfl
         rw [if_pos (by simp [Region.wanted, yielded, e55])]
         obtain ⟨o0, o1, o2, o3, o4, o5⟩ := (X6.out.on (Below.step BN.out hg)).cells
         go_simp
         exact hK.out _ _ hg rfl (fun _ _ h => h)
        case s58 =>
         intro a w' hoff hg hdep K hK
         have h7 := off_at hoff 7 (v := .pointer (some ⟨kp, 0, none⟩)) (by kernel_rfl) rfl
         obtain ⟨_, e55, rfl⟩ := hdep 55 _ 117 (by kernel_rfl) rfl rfl
         rw [if_pos (by simp [Region.wanted, yielded, e55])]
         go_simp
         exact hK.out _ _ hg rfl (fun _ _ h => h)
        case s59 =>
         intro a w' hoff hg hdep K hK
         obtain ⟨_, e58, rfl⟩ := hdep 58 _ 120 (by kernel_rfl) rfl rfl
         obtain ⟨_, e55, rfl⟩ := hdep 55 _ 117 (by kernel_rfl) rfl rfl
         rw [if_pos (by simp [Region.wanted, yielded, e55])]
         obtain ⟨p0, p1, p2⟩ := (X7.out.on (Below.step BN.out hg)).cells
         go_simp
         exact hK.out _ _ hg rfl (fun _ _ h => h)
        case s60 =>
         intro a w' hoff hg hdep K hK
         have h7 := off_at hoff 7 (v := .pointer (some ⟨kp, 0, none⟩)) (by kernel_rfl) rfl
         obtain ⟨_, e55, rfl⟩ := hdep 55 _ 117 (by kernel_rfl) rfl rfl
         rw [if_pos (by simp [Region.wanted, yielded, e55])]
         go_simp
         exact hK.out _ _ hg rfl (fun _ _ h => h)
        case s61 =>
         intro a w' hoff hg hdep K hK
         obtain ⟨_, e60, rfl⟩ := hdep 60 _ 122 (by kernel_rfl) rfl rfl
         obtain ⟨_, e55, rfl⟩ := hdep 55 _ 117 (by kernel_rfl) rfl rfl
         rw [if_pos (by simp [Region.wanted, yielded, e55])]
         obtain ⟨p0, p1, p2⟩ := (X7.out.on (Below.step BN.out hg)).cells
         go_simp
         exact hK.out _ _ hg rfl (fun _ _ h => h)
        case s62 =>
         intro a w' hoff hg hdep K hK
         obtain ⟨_, e57, rfl⟩ := hdep 57 _ 119 (by kernel_rfl) rfl rfl
         obtain ⟨_, e59, rfl⟩ := hdep 59 _ 121 (by kernel_rfl) rfl rfl
         obtain ⟨_, e61, rfl⟩ := hdep 61 _ 123 (by kernel_rfl) rfl rfl
         obtain ⟨_, e55, rfl⟩ := hdep 55 _ 117 (by kernel_rfl) rfl rfl
         rw [if_pos (by simp [Region.wanted, yielded, e55])]
         go_simp
         refine (linked7_any r.body p.from' p.head (fun b => b < k6) w' _ (fun b hb => Nat.lt_of_lt_of_le hb (Nat.le_trans KN.out hg.size)) (RepLis.on (fun _ h => h) (fun b hb => hg.block b (Nat.lt_of_lt_of_le hb KN.out)) GN.out.2.2.2.2.2.2.2.2.2) (by have := HBL.out; omega)).mono ?_
         rintro e w2' ⟨rfl, hb⟩
         rw [HLK.out]
         exact hK.out _ _ (Below.step hg hb) rfl (fSt trivial)
        case s63 =>
         intro a w' hoff hg hdep K hK
         obtain ⟨_, e62, rfl⟩ := hdep 62 _ 124 (by kernel_rfl) rfl rfl
         obtain ⟨_, e55, rfl⟩ := hdep 55 _ 117 (by kernel_rfl) rfl rfl
         rw [if_pos (by simp [Region.wanted, yielded, e55])]
         go_simp
         exact hK.out _ _ hg rfl (fun _ _ h => h)
        case s64 =>
         intro a w' hoff hg hdep K hK
         obtain ⟨_, e55, rfl⟩ := hdep 55 _ 117 (by kernel_rfl) rfl rfl
         obtain ⟨_, e63, rfl⟩ := hdep 63 _ 125 (by kernel_rfl) rfl rfl
         obtain ⟨_, e44, rfl⟩ := hdep 44 _ 106 (by kernel_rfl) rfl rfl
         rw [if_pos (by simp [Region.wanted, yielded, e44])]
         go_simp
         exact hK.out _ _ hg rfl (fun _ _ h => h)
        case s65 =>
         intro a w' hoff hg hdep K hK
         obtain ⟨_, e44, rfl⟩ := hdep 44 _ 106 (by kernel_rfl) rfl rfl
         obtain ⟨_, e64, rfl⟩ := hdep 64 _ 126 (by kernel_rfl) rfl rfl
         rw [if_pos (by rfl)]
         go_simp
         exact hK.out _ _ hg rfl (fun _ _ h => h)
        case s66 =>
         intro a w' hoff hg hdep K hK
         obtain ⟨_, e65, rfl⟩ := hdep 65 _ 127 (by kernel_rfl) rfl rfl
         rw [if_pos (by rfl)]
         go_simp
         exact hK.out _ _ hg rfl (fun _ _ h => h)
        case s67 =>
         intro a w' hoff hg hdep K hK
         have h6 := off_at hoff 6 (v := .pointer (some ⟨kr, 0, none⟩)) (by kernel_rfl) rfl
         obtain ⟨_, e66, rfl⟩ := hdep 66 _ 128 (by kernel_rfl) rfl rfl
         rw [if_pos (by simp [Region.wanted, yielded, e66])]
         go_simp
         exact hK.out _ _ hg rfl (fun _ _ h => h)
        case s68 =>
         intro a w' hoff hg hdep K hK
         obtain ⟨_, e67, rfl⟩ := hdep 67 _ 129 (by kernel_rfl) rfl rfl
         obtain ⟨_, e66, rfl⟩ := hdep 66 _ 128 (by kernel_rfl) rfl rfl
         rw [if_pos (by simp [Region.wanted, yielded, e66])]
         obtain ⟨o0, o1, o2, o3, o4, o5⟩ := (X6.out.on (Below.step BN.out hg)).cells
         go_simp
         exact hK.out _ _ hg rfl (fun _ _ h => h)
        case s69 =>
         intro a w' hoff hg hdep K hK
         obtain ⟨_, e68, rfl⟩ := hdep 68 _ 130 (by kernel_rfl) rfl rfl
         obtain ⟨_, e66, rfl⟩ := hdep 66 _ 128 (by kernel_rfl) rfl rfl
         rw [if_pos (by simp [Region.wanted, yielded, e66])]
         go_simp
         exact hK.out _ _ hg rfl (fun _ _ h => h)
        case s70 =>
         intro a w' hoff hg hdep K hK
         obtain ⟨_, e69, rfl⟩ := hdep 69 _ 131 (by kernel_rfl) rfl rfl
         obtain ⟨_, e66, rfl⟩ := hdep 66 _ 128 (by kernel_rfl) rfl rfl
         rw [if_pos (by simp [Region.wanted, yielded, e66])]
         go_simp
         exact hK.out _ _ hg rfl (fun _ _ h => h)
        case s71 =>
         intro a w' hoff hg hdep K hK
         have h7 := off_at hoff 7 (v := .pointer (some ⟨kp, 0, none⟩)) (by kernel_rfl) rfl
         obtain ⟨_, e70, rfl⟩ := hdep 70 _ 132 (by kernel_rfl) rfl rfl
         rw [if_neg (by simp [Region.wanted, yielded, e70])]
         exact hK.out _ _ hg rfl (fun _ _ h => h)
        case s72 =>
         intro a w' hoff hg hdep K hK
         obtain ⟨v71, e71, f71⟩ := hdep 71 _ 133 (by kernel_rfl) rfl rfl
         obtain rfl : undef = v71 := Eq.symm f71
         obtain ⟨_, e70, rfl⟩ := hdep 70 _ 132 (by kernel_rfl) rfl rfl
         rw [if_neg (by simp [Region.wanted, yielded, e70])]
         exact hK.out _ _ hg rfl (fun _ _ h => h)
        case s73 =>
         intro a w' hoff hg hdep K hK
         obtain ⟨v72, e72, f72⟩ := hdep 72 _ 134 (by kernel_rfl) rfl rfl
         obtain rfl : undef = v72 := Eq.symm f72
         obtain ⟨_, e70, rfl⟩ := hdep 70 _ 132 (by kernel_rfl) rfl rfl
         rw [if_neg (by simp [Region.wanted, yielded, e70])]
         exact hK.out _ _ hg rfl (fun _ _ h => h)
        case s74 =>
         intro a w' hoff hg hdep K hK
         obtain ⟨v73, e73, f73⟩ := hdep 73 _ 135 (by kernel_rfl) rfl rfl
         obtain rfl : undef = v73 := Eq.symm f73
         obtain ⟨_, e70, rfl⟩ := hdep 70 _ 132 (by kernel_rfl) rfl rfl
         rw [if_neg (by simp [Region.wanted, yielded, e70])]
         exact hK.out _ _ hg rfl (fun _ _ h => h)
        case s75 =>
         intro a w' hoff hg hdep K hK
         have h7 := off_at hoff 7 (v := .pointer (some ⟨kp, 0, none⟩)) (by kernel_rfl) rfl
         obtain ⟨v74, e74, f74⟩ := hdep 74 _ 136 (by kernel_rfl) rfl rfl
         obtain rfl : undef = v74 := Eq.symm f74
         rw [if_neg (by simp [Region.wanted, yielded, e74, undef])]
         exact hK.out _ _ hg rfl (fun _ _ h => h)
        case s76 =>
         intro a w' hoff hg hdep K hK
         obtain ⟨v75, e75, f75⟩ := hdep 75 _ 137 (by kernel_rfl) rfl rfl
         obtain rfl : undef = v75 := Eq.symm f75
         obtain ⟨v74, e74, f74⟩ := hdep 74 _ 136 (by kernel_rfl) rfl rfl
         obtain rfl : undef = v74 := Eq.symm f74
         rw [if_neg (by simp [Region.wanted, yielded, e74, undef])]
         exact hK.out _ _ hg rfl (fun _ _ h => h)
        case s77 =>
         intro a w' hoff hg hdep K hK
         have h7 := off_at hoff 7 (v := .pointer (some ⟨kp, 0, none⟩)) (by kernel_rfl) rfl
         obtain ⟨v74, e74, f74⟩ := hdep 74 _ 136 (by kernel_rfl) rfl rfl
         obtain rfl : undef = v74 := Eq.symm f74
         rw [if_neg (by simp [Region.wanted, yielded, e74, undef])]
         exact hK.out _ _ hg rfl (fun _ _ h => h)
        case s78 =>
         intro a w' hoff hg hdep K hK
         obtain ⟨v77, e77, f77⟩ := hdep 77 _ 139 (by kernel_rfl) rfl rfl
         obtain rfl : undef = v77 := Eq.symm f77
         obtain ⟨v74, e74, f74⟩ := hdep 74 _ 136 (by kernel_rfl) rfl rfl
         obtain rfl : undef = v74 := Eq.symm f74
         rw [if_neg (by simp [Region.wanted, yielded, e74, undef])]
         exact hK.out _ _ hg rfl (fun _ _ h => h)
        case s79 =>
         intro a w' hoff hg hdep K hK
         obtain ⟨v76, e76, f76⟩ := hdep 76 _ 138 (by kernel_rfl) rfl rfl
         obtain rfl : undef = v76 := Eq.symm f76
         obtain ⟨v78, e78, f78⟩ := hdep 78 _ 140 (by kernel_rfl) rfl rfl
         obtain rfl : undef = v78 := Eq.symm f78
         obtain ⟨v74, e74, f74⟩ := hdep 74 _ 136 (by kernel_rfl) rfl rfl
         obtain rfl : undef = v74 := Eq.symm f74
         rw [if_neg (by simp [Region.wanted, yielded, e74, undef])]
         exact hK.out _ _ hg rfl (fun _ _ h => h)
        case s80 =>
         intro a w' hoff hg hdep K hK
         obtain ⟨v74, e74, f74⟩ := hdep 74 _ 136 (by kernel_rfl) rfl rfl
         obtain rfl : undef = v74 := Eq.symm f74
         obtain ⟨v79, e79, f79⟩ := hdep 79 _ 141 (by kernel_rfl) rfl rfl
         obtain rfl : undef = v79 := Eq.symm f79
         obtain ⟨_, e70, rfl⟩ := hdep 70 _ 132 (by kernel_rfl) rfl rfl
         rw [if_neg (by simp [Region.wanted, yielded, e70])]
         exact hK.out _ _ hg rfl (fun _ _ h => h)
        case s81 =>
         intro a w' hoff hg hdep K hK
         obtain ⟨_, e70, rfl⟩ := hdep 70 _ 132 (by kernel_rfl) rfl rfl
         obtain ⟨v80, e80, f80⟩ := hdep 80 _ 142 (by kernel_rfl) rfl rfl
         obtain rfl : undef = v80 := Eq.symm f80
         obtain ⟨_, e66, rfl⟩ := hdep 66 _ 128 (by kernel_rfl) rfl rfl
         rw [if_pos (by simp [Region.wanted, yielded, e66])]
         go_simp
         exact hK.out _ _ hg rfl (fun _ _ h => h)
        case s82 =>
         intro a w' hoff hg hdep K hK
         obtain ⟨_, e66, rfl⟩ := hdep 66 _ 128 (by kernel_rfl) rfl rfl
         obtain ⟨_, e81, rfl⟩ := hdep 81 _ 143 (by kernel_rfl) rfl rfl
         rw [if_pos (by rfl)]
         go_simp
         exact hK.out _ _ hg rfl (fun _ _ h => h)
        case fin =>
         intro a w' hoff hg hf
         obtain ⟨_, e0, rfl⟩ := hf 0 _ 62 rfl rfl
         obtain ⟨_, e1, rfl⟩ := hf 1 _ 63 rfl rfl
         obtain ⟨_, e2, rfl⟩ := hf 2 _ 64 rfl rfl
         obtain ⟨_, e3, rfl⟩ := hf 3 _ 65 rfl rfl
         obtain ⟨_, e4, rfl⟩ := hf 4 _ 66 rfl rfl
         obtain ⟨_, e5, rfl⟩ := hf 5 _ 67 rfl rfl
         obtain ⟨_, e6, rfl⟩ := hf 6 _ 68 rfl rfl
         obtain ⟨_, e7, rfl⟩ := hf 7 _ 69 rfl rfl
         obtain ⟨_, e8, rfl⟩ := hf 8 _ 70 rfl rfl
         obtain ⟨_, e9, rfl⟩ := hf 9 _ 71 rfl rfl
         obtain ⟨_, e10, rfl⟩ := hf 10 _ 72 rfl rfl
         obtain ⟨_, e11, rfl⟩ := hf 11 _ 73 rfl rfl
         obtain ⟨_, e12, rfl⟩ := hf 12 _ 74 rfl rfl
         obtain ⟨_, e13, rfl⟩ := hf 13 _ 75 rfl rfl
         obtain ⟨_, e14, rfl⟩ := hf 14 _ 76 rfl rfl
         obtain ⟨_, e15, rfl⟩ := hf 15 _ 77 rfl rfl
         obtain ⟨_, e16, rfl⟩ := hf 16 _ 78 rfl rfl
         obtain ⟨_, e17, rfl⟩ := hf 17 _ 79 rfl rfl
         obtain ⟨_, e18, rfl⟩ := hf 18 _ 80 rfl rfl
         obtain ⟨_, e19, rfl⟩ := hf 19 _ 81 rfl rfl
         obtain ⟨v20, e20, f20⟩ := hf 20 _ 82 rfl rfl
         obtain rfl : undef = v20 := Eq.symm f20
         obtain ⟨v21, e21, f21⟩ := hf 21 _ 83 rfl rfl
         obtain rfl : undef = v21 := Eq.symm f21
         obtain ⟨v22, e22, f22⟩ := hf 22 _ 84 rfl rfl
         obtain rfl : undef = v22 := Eq.symm f22
         obtain ⟨v23, e23, f23⟩ := hf 23 _ 85 rfl rfl
         obtain rfl : undef = v23 := Eq.symm f23
         obtain ⟨v24, e24, f24⟩ := hf 24 _ 86 rfl rfl
         obtain rfl : undef = v24 := Eq.symm f24
         obtain ⟨v25, e25, f25⟩ := hf 25 _ 87 rfl rfl
         obtain rfl : undef = v25 := Eq.symm f25
         obtain ⟨v26, e26, f26⟩ := hf 26 _ 88 rfl rfl
         obtain rfl : undef = v26 := Eq.symm f26
         obtain ⟨v27, e27, f27⟩ := hf 27 _ 89 rfl rfl
         obtain rfl : undef = v27 := Eq.symm f27
         obtain ⟨v28, e28, f28⟩ := hf 28 _ 90 rfl rfl
         obtain rfl : undef = v28 := Eq.symm f28
         obtain ⟨v29, e29, f29⟩ := hf 29 _ 91 rfl rfl
         obtain rfl : undef = v29 := Eq.symm f29
         obtain ⟨v30, e30, f30⟩ := hf 30 _ 92 rfl rfl
         obtain rfl : undef = v30 := Eq.symm f30
         obtain ⟨v31, e31, f31⟩ := hf 31 _ 93 rfl rfl
         obtain rfl : undef = v31 := Eq.symm f31
         obtain ⟨v32, e32, f32⟩ := hf 32 _ 94 rfl rfl
         obtain rfl : undef = v32 := Eq.symm f32
         obtain ⟨v33, e33, f33⟩ := hf 33 _ 95 rfl rfl
         obtain rfl : undef = v33 := Eq.symm f33
         obtain ⟨v34, e34, f34⟩ := hf 34 _ 96 rfl rfl
         obtain rfl : undef = v34 := Eq.symm f34
         obtain ⟨v35, e35, f35⟩ := hf 35 _ 97 rfl rfl
         obtain rfl : undef = v35 := Eq.symm f35
         obtain ⟨v36, e36, f36⟩ := hf 36 _ 98 rfl rfl
         obtain rfl : undef = v36 := Eq.symm f36
         obtain ⟨v37, e37, f37⟩ := hf 37 _ 99 rfl rfl
         obtain rfl : undef = v37 := Eq.symm f37
         obtain ⟨v38, e38, f38⟩ := hf 38 _ 100 rfl rfl
         obtain rfl : undef = v38 := Eq.symm f38
         obtain ⟨v39, e39, f39⟩ := hf 39 _ 101 rfl rfl
         obtain rfl : undef = v39 := Eq.symm f39
         obtain ⟨v40, e40, f40⟩ := hf 40 _ 102 rfl rfl
         obtain rfl : undef = v40 := Eq.symm f40
         obtain ⟨v41, e41, f41⟩ := hf 41 _ 103 rfl rfl
         obtain rfl : undef = v41 := Eq.symm f41
         obtain ⟨_, e42, rfl⟩ := hf 42 _ 104 rfl rfl
         obtain ⟨_, e43, rfl⟩ := hf 43 _ 105 rfl rfl
         obtain ⟨_, e44, rfl⟩ := hf 44 _ 106 rfl rfl
         obtain ⟨_, e45, rfl⟩ := hf 45 _ 107 rfl rfl
         obtain ⟨_, e46, rfl⟩ := hf 46 _ 108 rfl rfl
         obtain ⟨_, e47, rfl⟩ := hf 47 _ 109 rfl rfl
         obtain ⟨_, e48, rfl⟩ := hf 48 _ 110 rfl rfl
         obtain ⟨_, e49, rfl⟩ := hf 49 _ 111 rfl rfl
         obtain ⟨_, e50, rfl⟩ := hf 50 _ 112 rfl rfl
         obtain ⟨_, e51, rfl⟩ := hf 51 _ 113 rfl rfl
         obtain ⟨_, e52, rfl⟩ := hf 52 _ 114 rfl rfl
         obtain ⟨_, e53, rfl⟩ := hf 53 _ 115 rfl rfl
         obtain ⟨_, e54, rfl⟩ := hf 54 _ 116 rfl rfl
         obtain ⟨_, e55, rfl⟩ := hf 55 _ 117 rfl rfl
         obtain ⟨_, e56, rfl⟩ := hf 56 _ 118 rfl rfl
         obtain ⟨_, e57, rfl⟩ := hf 57 _ 119 rfl rfl
         obtain ⟨_, e58, rfl⟩ := hf 58 _ 120 rfl rfl
         obtain ⟨_, e59, rfl⟩ := hf 59 _ 121 rfl rfl
         obtain ⟨_, e60, rfl⟩ := hf 60 _ 122 rfl rfl
         obtain ⟨_, e61, rfl⟩ := hf 61 _ 123 rfl rfl
         obtain ⟨_, e62, rfl⟩ := hf 62 _ 124 rfl rfl
         obtain ⟨_, e63, rfl⟩ := hf 63 _ 125 rfl rfl
         obtain ⟨_, e64, rfl⟩ := hf 64 _ 126 rfl rfl
         obtain ⟨_, e65, rfl⟩ := hf 65 _ 127 rfl rfl
         obtain ⟨_, e66, rfl⟩ := hf 66 _ 128 rfl rfl
         obtain ⟨_, e67, rfl⟩ := hf 67 _ 129 rfl rfl
         obtain ⟨_, e68, rfl⟩ := hf 68 _ 130 rfl rfl
         obtain ⟨_, e69, rfl⟩ := hf 69 _ 131 rfl rfl
         obtain ⟨_, e70, rfl⟩ := hf 70 _ 132 rfl rfl
         obtain ⟨v71, e71, f71⟩ := hf 71 _ 133 rfl rfl
         obtain rfl : undef = v71 := Eq.symm f71
         obtain ⟨v72, e72, f72⟩ := hf 72 _ 134 rfl rfl
         obtain rfl : undef = v72 := Eq.symm f72
         obtain ⟨v73, e73, f73⟩ := hf 73 _ 135 rfl rfl
         obtain rfl : undef = v73 := Eq.symm f73
         obtain ⟨v74, e74, f74⟩ := hf 74 _ 136 rfl rfl
         obtain rfl : undef = v74 := Eq.symm f74
         obtain ⟨v75, e75, f75⟩ := hf 75 _ 137 rfl rfl
         obtain rfl : undef = v75 := Eq.symm f75
         obtain ⟨v76, e76, f76⟩ := hf 76 _ 138 rfl rfl
         obtain rfl : undef = v76 := Eq.symm f76
         obtain ⟨v77, e77, f77⟩ := hf 77 _ 139 rfl rfl
         obtain rfl : undef = v77 := Eq.symm f77
         obtain ⟨v78, e78, f78⟩ := hf 78 _ 140 rfl rfl
         obtain rfl : undef = v78 := Eq.symm f78
         obtain ⟨v79, e79, f79⟩ := hf 79 _ 141 rfl rfl
         obtain rfl : undef = v79 := Eq.symm f79
         obtain ⟨v80, e80, f80⟩ := hf 80 _ 142 rfl rfl
         obtain rfl : undef = v80 := Eq.symm f80
         obtain ⟨_, e81, rfl⟩ := hf 81 _ 143 rfl rfl
         obtain ⟨_, e82, rfl⟩ := hf 82 _ 144 rfl rfl
         rw [hoff.sets [(62, .pointer (some ⟨kp, 0, none⟩)), (63, .string p.from'), (64, .pointer (some ⟨kp, 1, none⟩)), (65, .string p.to'), (66, .bool false), (67, .bool false), (68, .pointer (some ⟨kr, 2, none⟩)), (69, .slice (some ⟨zb, zo, none⟩) r.args.length xc), (70, .pointer (some ⟨zb, zo, none⟩)), (71, .pointer (some ⟨zb, zo + 1, none⟩)), (72, .string p.head), (73, .pointer (some ⟨kp, 2, none⟩)), (74, .string p.head), (75, .bool false), (76, .bool false), (77, .bool false), (78, .pointer (some ⟨kp, 1, none⟩)), (79, .string p.to'), (80, .bool false), (81, .bool false), (82, undef), (83, undef), (84, undef), (85, undef), (86, undef), (87, undef), (88, undef), (89, undef), (90, undef), (91, undef), (92, undef), (93, undef), (94, undef), (95, undef), (96, undef), (97, undef), (98, undef), (99, undef), (100, undef), (101, undef), (102, undef), (103, undef), (104, .bool false), (105, .bool false), (106, .bool false), (107, .pointer (some ⟨kp, 1, none⟩)), (108, .string p.to'), (109, .bool true), (110, .bool true), (111, .pointer (some ⟨kp, 2, none⟩)), (112, .string p.head), (113, .pointer (some ⟨kp, 0, none⟩)), (114, .string p.from'), (115, .bool true), (116, .bool true), (117, .bool true), (118, .pointer (some ⟨kr, 5, none⟩)), (119, .slice ya r.body.length yc), (120, .pointer (some ⟨kp, 0, none⟩)), (121, .string p.from'), (122, .pointer (some ⟨kp, 2, none⟩)), (123, .string p.head), (124, .bool true), (125, .bool false), (126, .bool false), (127, .bool false), (128, .bool false), (129, .pointer (some ⟨kr, 3, none⟩)), (130, .string r.agg), (131, .bool false), (132, .bool false), (133, undef), (134, undef), (135, undef), (136, undef), (137, undef), (138, undef), (139, undef), (140, undef), (141, undef), (142, undef), (143, .bool false), (144, .bool false)] (by kernel_rfl) (by intro p hp; simp only [List.mem_cons, List.not_mem_nil, or_false] at hp; rcases hp with rfl | rfl | rfl | rfl | rfl | rfl | rfl | rfl | rfl | rfl | rfl | rfl | rfl | rfl | rfl | rfl | rfl | rfl | rfl | rfl | rfl | rfl | rfl | rfl | rfl | rfl | rfl | rfl | rfl | rfl | rfl | rfl | rfl | rfl | rfl | rfl | rfl | rfl | rfl | rfl | rfl | rfl | rfl | rfl | rfl | rfl | rfl | rfl | rfl | rfl | rfl | rfl | rfl | rfl | rfl | rfl | rfl | rfl | rfl | rfl | rfl | rfl | rfl | rfl | rfl | rfl | rfl | rfl | rfl | rfl | rfl | rfl | rfl | rfl | rfl | rfl | rfl | rfl | rfl | rfl | rfl | rfl | rfl <;> assumption)]
         clear hoff hf e0 e1 e2 e3 e4 e5 e6 e7 e8 e9 e10 e11 e12 e13 e14 e15 e16 e17 e18 e19 e20 e21 e22 e23 e24 e25 e26 e27 e28 e29 e30 e31 e32 e33 e34 e35 e36 e37 e38 e39 e40 e41 e42 e43 e44 e45 e46 e47 e48 e49 e50 e51 e52 e53 e54 e55 e56 e57 e58 e59 e60 e61 e62 e63 e64 e65 e66 e67 e68 e69 e70 e71 e72 e73 e74 e75 e76 e77 e78 e79 e80 e81 e82
         simp only [List.foldl_cons, List.foldl_nil, List.setIfInBounds_toArray, List.set_cons_zero, List.set_cons_succ]
         have BZ := Lib.hid (Below.step BN.out hg)
         clear hg
         go_wp2_with fail
         go_roundw
         case rel => exact ⟨k + 1, HKL.out, by have := HKL.out; have := HLN.out; rw [show wrap64 ((k : Int) + 1) = ((k + 1 : Nat) : Int) by unfold wrap64; omega], Below.step hbel.out (Below.step B7.out BZ.out)⟩
         case measure => have := HKL.out; have := HLN.out; rw [show wrap64 ((k : Int) + 1) = ((k + 1 : Nat) : Int) by unfold wrap64; omega]; simp only [intOf]; omega
  ·have i1 : decide ((k : Int) < (q.rules.length : Int)) = false := decide_eq_false (by omega)
   have i2 : decide (k < q.rules.length) = false := decide_eq_false hl
   go_wp2_with fail
   go_ret
   exact ⟨rfl, Below.step B3.out hbel.out⟩
end Go.Proofs.YtjohcnhiblfbnaaGreatDoor.locateReads
