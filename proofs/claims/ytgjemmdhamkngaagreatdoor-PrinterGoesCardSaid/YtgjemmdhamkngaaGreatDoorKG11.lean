/-
  TellsFour
-/
import Derived.Test.YtgjemmdhamkngaaGreatDoorK21
import Derived.Test.YtgjemmdhamkngaaGreatDoorKG10
namespace Go.Proofs.YtgjemmdhamkngaaGreatDoor
open Go.RowKit
set_option maxRecDepth 100000 in
set_option maxHeartbeats 16000000 in
theorem tells_any (x : Pr) (S : Nat → Prop) (w : World) (c0 c1 c2 : Value) (hS : ∀ k, S k → k < w.heap.size) (hg : 0 < w.heap.size) (htab : TabOk w) (hx : RepPr S w x c0 c1 c2) :
  Calls Tryz.prog 3 #[.agg #[c0, c1, c2]] w fun e w' => e = .returned (.bool true) ∧ Below w.heap.size w w' := by
 have HX := Lib.hid hx; have HG := Lib.hid hg; have HT := Lib.hid htab
 have HFA := Lib.hid hx.2.1; have HR := Lib.hid hx.2.2
 obtain ⟨fa, fc, rfl⟩ := SlG.form hx.1
 obtain ⟨ga, gc, rfl⟩ := SlG.form hx.2.1
 obtain ⟨ha, hc, rfl⟩ := SlG.form hx.2.2
 clear hx hg htab
 obtain ⟨TB, hTB⟩ : ∃ t : ByteArray, (⟨(told (prB x) (showPr x)).toArray⟩ : ByteArray) = t := ⟨_, rfl⟩
 obtain ⟨pb, hpb⟩ : ∃ t, prB x = t := ⟨_, rfl⟩
 have HTB := Lib.hid hTB; have HPB := Lib.hid hpb
 clear hTB hpb
 go_enter Tryz.func3, Tryz.ntmps3
 go_wp2_with fail
 have x1 := boxPr_new w (.slice fa x.decls.length fc) (.slice ga x.facts.length gc) (.slice ha x.rules.length hc)
 have b1 := below_alloc w (.cells #[.slice fa x.decls.length fc, .slice ga x.facts.length gc, .slice ha x.rules.length hc] 26)
 generalize w.alloc (.cells #[.slice fa x.decls.length fc, .slice ga x.facts.length gc, .slice ha x.rules.length hc] 26) = w1 at *
 have X1 := Lib.hid x1; have B1 := Lib.hid b1
 clear x1 b1
 obtain ⟨p0, p1, p2⟩ := X1.out.cells
 refine (awake4_any _ (by have := HG.out; have := B1.out.size; omega) (HT.out.below HG.out B1.out)).mono ?_
 rintro e w2 ⟨rfl, hb⟩
 have X2 := Lib.hid (X1.out.on hb); have B2 := Lib.hid (Below.step B1.out hb)
 clear hb p0 p1 p2
 go_wp2_with fail
 refine wp_region_factsG (by rfl) 119 (by rfl) (by kernel_rfl) (fun _ iz vz => (iz = 0 → vz = .bool true) ∧ (iz = 1 → vz = .bool false) ∧ (iz = 2 → vz = .bool false) ∧ (iz = 3 → vz = .agg #[.slice fa x.decls.length fc, .slice ga x.facts.length gc, .slice ha x.rules.length hc]) ∧ (iz = 4 → vz = .bool pb) ∧ (iz = 5 → vz = .agg #[.slice fa x.decls.length fc, .slice ga x.facts.length gc, .slice ha x.rules.length hc]) ∧ (iz = 6 → vz = .bool pb) ∧ (iz = 7 → vz = .bool false) ∧ (iz = 8 → vz = .bool false) ∧ (iz = 9 → vz = .bool false) ∧ (iz = 10 → vz = .agg #[.slice fa x.decls.length fc, .slice ga x.facts.length gc, .slice ha x.rules.length hc]) ∧ (iz = 11 → vz = .string TB) ∧ (iz = 12 → vz = .agg #[.slice fa x.decls.length fc, .slice ga x.facts.length gc, .slice ha x.rules.length hc]) ∧ (iz = 13 → vz = .string TB) ∧ (iz = 14 → vz = .bool false) ∧ (iz = 15 → vz = .bool false)) (fun w' => Below w2.heap.size w2 w') (Below.drew (Below.refl _ _)) ⟨?s0, ?s1, ?s2, ?s3, ?s4, ?s5, ?s6, ?s7, ?s8, ?s9, ?s10, ?s11, ?s12, ?s13, ?s14, ?s15, trivial⟩ ?fin
 case s0 =>
  intro a w' hoff hg hdep K hK
  have h3 := off_at hoff 3 (v := .bool true) (by kernel_rfl) rfl
  rw [if_pos (by rfl)]
  go_simp
  exact hK.out _ _ hg ⟨fun _ => rfl, nn,nn,nn,nn,nn,nn,nn,nn,nn,nn,nn,nn,nn,nn,nn⟩ (fun _ _ h => h)
 case s1 =>
  intro a w' hoff hg hdep K hK
  obtain ⟨v0, e0, f0⟩ := hdep 0 _ 10 (by kernel_rfl) rfl rfl
  obtain rfl := (f0.1 rfl).symm
  rw [if_pos (by rfl)]
  go_simp
  exact hK.out _ _ hg ⟨nn, fun _ => rfl, nn,nn,nn,nn,nn,nn,nn,nn,nn,nn,nn,nn,nn,nn⟩ (fun _ _ h => h)
 case s2 =>
  intro a w' hoff hg hdep K hK
  obtain ⟨v1, e1, f1⟩ := hdep 1 _ 11 (by kernel_rfl) rfl rfl
  obtain rfl := (f1.2.1 rfl).symm
  rw [if_pos (by rfl)]
  go_simp
  exact hK.out _ _ hg ⟨nn,nn, fun _ => rfl, nn,nn,nn,nn,nn,nn,nn,nn,nn,nn,nn,nn,nn⟩ (fun _ _ h => h)
 case s3 =>
  intro a w' hoff hg hdep K hK
  have h1 := off_at hoff 1 (v := .pointer (some ⟨w.heap.size, 0, none⟩)) (by kernel_rfl) rfl
  obtain ⟨v2, e2, f2⟩ := hdep 2 _ 12 (by kernel_rfl) rfl rfl
  obtain rfl := (f2.2.2.1 rfl).symm
  rw [if_pos (by simp [Region.wanted, yielded, e2])]
  obtain ⟨p0, p1, p2⟩ := (X2.out.on hg).cells
  go_simp
  exact hK.out _ _ hg ⟨nn,nn,nn, fun _ => rfl, nn,nn,nn,nn,nn,nn,nn,nn,nn,nn,nn,nn⟩ (fun _ _ h => h)
 case s4 =>
  intro a w' hoff hg hdep K hK
  obtain ⟨v3, e3, f3⟩ := hdep 3 _ 13 (by kernel_rfl) rfl rfl
  obtain rfl := (f3.2.2.2.1 rfl).symm
  obtain ⟨v2, e2, f2⟩ := hdep 2 _ 12 (by kernel_rfl) rfl rfl
  obtain rfl := (f2.2.2.1 rfl).symm
  rw [if_pos (by simp [Region.wanted, yielded, e2])]
  go_simp
  refine (prRight_any x S _ _ _ _ (fun k hk => Nat.lt_of_lt_of_le (hS k hk) (Below.step B2.out hg).size) (RepPr.on (fun _ h => h) (fun k hk => (Below.step B2.out hg).block k (hS k hk)) HX.out)).mono ?_
  rw [HPB.out]
  rintro e w2 ⟨rfl, hb⟩
  exact hK.out _ _ (Below.step hg hb) ⟨nn,nn,nn,nn, fun _ => rfl, nn,nn,nn,nn,nn,nn,nn,nn,nn,nn,nn⟩ (fun _ _ h => h)
 case s5 =>
  intro a w' hoff hg hdep K hK
  have h1 := off_at hoff 1 (v := .pointer (some ⟨w.heap.size, 0, none⟩)) (by kernel_rfl) rfl
  obtain ⟨v2, e2, f2⟩ := hdep 2 _ 12 (by kernel_rfl) rfl rfl
  obtain rfl := (f2.2.2.1 rfl).symm
  rw [if_pos (by simp [Region.wanted, yielded, e2])]
  obtain ⟨p0, p1, p2⟩ := (X2.out.on hg).cells
  go_simp
  exact hK.out _ _ hg ⟨nn,nn,nn,nn,nn, fun _ => rfl, nn,nn,nn,nn,nn,nn,nn,nn,nn,nn⟩ (fun _ _ h => h)
 case s6 =>
  intro a w' hoff hg hdep K hK
  obtain ⟨v5, e5, f5⟩ := hdep 5 _ 15 (by kernel_rfl) rfl rfl
  obtain rfl := (f5.2.2.2.2.2.1 rfl).symm
  obtain ⟨v2, e2, f2⟩ := hdep 2 _ 12 (by kernel_rfl) rfl rfl
  obtain rfl := (f2.2.2.1 rfl).symm
  rw [if_pos (by simp [Region.wanted, yielded, e2])]
  go_simp
  refine (refPrRight_any x S _ _ _ _ (fun k hk => Nat.lt_of_lt_of_le (hS k hk) (Below.step B2.out hg).size) (RepPr.on (fun _ h => h) (fun k hk => (Below.step B2.out hg).block k (hS k hk)) HX.out)).mono ?_
  rw [HPB.out]
  rintro e w2 ⟨rfl, hb⟩
  exact hK.out _ _ (Below.step hg hb) ⟨nn,nn,nn,nn,nn,nn, fun _ => rfl, nn,nn,nn,nn,nn,nn,nn,nn,nn⟩ (fun _ _ h => h)
 case s7 =>
  intro a w' hoff hg hdep K hK
  obtain ⟨v4, e4, f4⟩ := hdep 4 _ 14 (by kernel_rfl) rfl rfl
  obtain rfl := (f4.2.2.2.2.1 rfl).symm
  obtain ⟨v6, e6, f6⟩ := hdep 6 _ 16 (by kernel_rfl) rfl rfl
  obtain rfl := (f6.2.2.2.2.2.2.1 rfl).symm
  obtain ⟨v2, e2, f2⟩ := hdep 2 _ 12 (by kernel_rfl) rfl rfl
  obtain rfl := (f2.2.2.1 rfl).symm
  rw [if_pos (by simp [Region.wanted, yielded, e2])]
  go_simp
  exact hK.out _ _ hg ⟨nn,nn,nn,nn,nn,nn,nn, fun _ => rfl, nn,nn,nn,nn,nn,nn,nn,nn⟩ (fun _ _ h => h)
 case s8 =>
  intro a w' hoff hg hdep K hK
  obtain ⟨v2, e2, f2⟩ := hdep 2 _ 12 (by kernel_rfl) rfl rfl
  obtain rfl := (f2.2.2.1 rfl).symm
  obtain ⟨v7, e7, f7⟩ := hdep 7 _ 17 (by kernel_rfl) rfl rfl
  obtain rfl := (f7.2.2.2.2.2.2.2.1 rfl).symm
  rw [if_pos (by rfl)]
  go_simp
  exact hK.out _ _ hg ⟨nn,nn,nn,nn,nn,nn,nn,nn, fun _ => rfl, nn,nn,nn,nn,nn,nn,nn⟩ (fun _ _ h => h)
 case s9 =>
  intro a w' hoff hg hdep K hK
  obtain ⟨v8, e8, f8⟩ := hdep 8 _ 18 (by kernel_rfl) rfl rfl
  obtain rfl := (f8.2.2.2.2.2.2.2.2.1 rfl).symm
  rw [if_pos (by rfl)]
  go_simp
  exact hK.out _ _ hg ⟨nn,nn,nn,nn,nn,nn,nn,nn,nn, fun _ => rfl, nn,nn,nn,nn,nn,nn⟩ (fun _ _ h => h)
 case s10 =>
  intro a w' hoff hg hdep K hK
  have h1 := off_at hoff 1 (v := .pointer (some ⟨w.heap.size, 0, none⟩)) (by kernel_rfl) rfl
  obtain ⟨v9, e9, f9⟩ := hdep 9 _ 19 (by kernel_rfl) rfl rfl
  obtain rfl := (f9.2.2.2.2.2.2.2.2.2.1 rfl).symm
  rw [if_pos (by simp [Region.wanted, yielded, e9])]
  obtain ⟨p0, p1, p2⟩ := (X2.out.on hg).cells
  go_simp
  exact hK.out _ _ hg ⟨nn,nn,nn,nn,nn,nn,nn,nn,nn,nn, fun _ => rfl, nn,nn,nn,nn,nn⟩ (fun _ _ h => h)
 case s11 =>
  intro a w' hoff hg hdep K hK
  obtain ⟨v10, e10, f10⟩ := hdep 10 _ 20 (by kernel_rfl) rfl rfl
  obtain rfl := (f10.2.2.2.2.2.2.2.2.2.2.1 rfl).symm
  obtain ⟨v9, e9, f9⟩ := hdep 9 _ 19 (by kernel_rfl) rfl rfl
  obtain rfl := (f9.2.2.2.2.2.2.2.2.2.1 rfl).symm
  rw [if_pos (by simp [Region.wanted, yielded, e9])]
  go_simp
  refine (prPr_any x S _ _ _ _ (fun k hk => Nat.lt_of_lt_of_le (hS k hk) (Below.step B2.out hg).size) (by have := HG.out; have := (Below.step B2.out hg).size; omega) (HT.out.below HG.out (Below.step B2.out hg)) (RepPr.on (fun _ h => h) (fun k hk => (Below.step B2.out hg).block k (hS k hk)) HX.out) (fun h => showPr_fits h)).mono ?_
  rw [HTB.out]
  rintro e w2 ⟨rfl, hb⟩
  exact hK.out _ _ (Below.step hg hb) ⟨nn,nn,nn,nn,nn,nn,nn,nn,nn,nn,nn, fun _ => rfl, nn,nn,nn,nn⟩ (fun _ _ h => h)
 case s12 =>
  intro a w' hoff hg hdep K hK
  have h1 := off_at hoff 1 (v := .pointer (some ⟨w.heap.size, 0, none⟩)) (by kernel_rfl) rfl
  obtain ⟨v9, e9, f9⟩ := hdep 9 _ 19 (by kernel_rfl) rfl rfl
  obtain rfl := (f9.2.2.2.2.2.2.2.2.2.1 rfl).symm
  rw [if_pos (by simp [Region.wanted, yielded, e9])]
  obtain ⟨p0, p1, p2⟩ := (X2.out.on hg).cells
  go_simp
  exact hK.out _ _ hg ⟨nn,nn,nn,nn,nn,nn,nn,nn,nn,nn,nn,nn, fun _ => rfl, nn,nn,nn⟩ (fun _ _ h => h)
 case s13 =>
  intro a w' hoff hg hdep K hK
  obtain ⟨v12, e12, f12⟩ := hdep 12 _ 22 (by kernel_rfl) rfl rfl
  obtain rfl := (f12.2.2.2.2.2.2.2.2.2.2.2.2.1 rfl).symm
  obtain ⟨v9, e9, f9⟩ := hdep 9 _ 19 (by kernel_rfl) rfl rfl
  obtain rfl := (f9.2.2.2.2.2.2.2.2.2.1 rfl).symm
  rw [if_pos (by simp [Region.wanted, yielded, e9])]
  go_simp
  refine (refPrText_any x S _ _ _ _ (fun k hk => Nat.lt_of_lt_of_le (hS k hk) (Below.step B2.out hg).size) (RepPr.on (fun _ h => h) (fun k hk => (Below.step B2.out hg).block k (hS k hk)) HX.out)).mono ?_
  rw [HTB.out]
  rintro e w2 ⟨rfl, hb⟩
  exact hK.out _ _ (Below.step hg hb) ⟨nn,nn,nn,nn,nn,nn,nn,nn,nn,nn,nn,nn,nn, fun _ => rfl, nn,nn⟩ (fun _ _ h => h)
 case s14 =>
  intro a w' hoff hg hdep K hK
  obtain ⟨v11, e11, f11⟩ := hdep 11 _ 21 (by kernel_rfl) rfl rfl
  obtain rfl := (f11.2.2.2.2.2.2.2.2.2.2.2.1 rfl).symm
  obtain ⟨v13, e13, f13⟩ := hdep 13 _ 23 (by kernel_rfl) rfl rfl
  obtain rfl := (f13.2.2.2.2.2.2.2.2.2.2.2.2.2.1 rfl).symm
  obtain ⟨v9, e9, f9⟩ := hdep 9 _ 19 (by kernel_rfl) rfl rfl
  obtain rfl := (f9.2.2.2.2.2.2.2.2.2.1 rfl).symm
  rw [if_pos (by simp [Region.wanted, yielded, e9])]
  go_simp
  exact hK.out _ _ hg ⟨nn,nn,nn,nn,nn,nn,nn,nn,nn,nn,nn,nn,nn,nn, fun _ => rfl, nn⟩ (fun _ _ h => h)
 case s15 =>
  intro a w' hoff hg hdep K hK
  obtain ⟨v9, e9, f9⟩ := hdep 9 _ 19 (by kernel_rfl) rfl rfl
  obtain rfl := (f9.2.2.2.2.2.2.2.2.2.1 rfl).symm
  obtain ⟨v14, e14, f14⟩ := hdep 14 _ 24 (by kernel_rfl) rfl rfl
  obtain rfl := (f14.2.2.2.2.2.2.2.2.2.2.2.2.2.2.1 rfl).symm
  rw [if_pos (by rfl)]
  go_simp
  exact hK.out _ _ hg ⟨nn,nn,nn,nn,nn,nn,nn,nn,nn,nn,nn,nn,nn,nn,nn, fun _ => rfl⟩ (fun _ _ h => h)
 case fin =>
  intro a w3 hoff hg hf
  obtain ⟨v0, e0, f0⟩ := hf 0 _ 10 rfl rfl
  obtain rfl := (f0.1 rfl).symm
  obtain ⟨v1, e1, f1⟩ := hf 1 _ 11 rfl rfl
  obtain rfl := (f1.2.1 rfl).symm
  obtain ⟨v2, e2, f2⟩ := hf 2 _ 12 rfl rfl
  obtain rfl := (f2.2.2.1 rfl).symm
  obtain ⟨v3, e3, f3⟩ := hf 3 _ 13 rfl rfl
  obtain rfl := (f3.2.2.2.1 rfl).symm
  obtain ⟨v4, e4, f4⟩ := hf 4 _ 14 rfl rfl
  obtain rfl := (f4.2.2.2.2.1 rfl).symm
  obtain ⟨v5, e5, f5⟩ := hf 5 _ 15 rfl rfl
  obtain rfl := (f5.2.2.2.2.2.1 rfl).symm
  obtain ⟨v6, e6, f6⟩ := hf 6 _ 16 rfl rfl
  obtain rfl := (f6.2.2.2.2.2.2.1 rfl).symm
  obtain ⟨v7, e7, f7⟩ := hf 7 _ 17 rfl rfl
  obtain rfl := (f7.2.2.2.2.2.2.2.1 rfl).symm
  obtain ⟨v8, e8, f8⟩ := hf 8 _ 18 rfl rfl
  obtain rfl := (f8.2.2.2.2.2.2.2.2.1 rfl).symm
  obtain ⟨v9, e9, f9⟩ := hf 9 _ 19 rfl rfl
  obtain rfl := (f9.2.2.2.2.2.2.2.2.2.1 rfl).symm
  obtain ⟨v10, e10, f10⟩ := hf 10 _ 20 rfl rfl
  obtain rfl := (f10.2.2.2.2.2.2.2.2.2.2.1 rfl).symm
  obtain ⟨v11, e11, f11⟩ := hf 11 _ 21 rfl rfl
  obtain rfl := (f11.2.2.2.2.2.2.2.2.2.2.2.1 rfl).symm
  obtain ⟨v12, e12, f12⟩ := hf 12 _ 22 rfl rfl
  obtain rfl := (f12.2.2.2.2.2.2.2.2.2.2.2.2.1 rfl).symm
  obtain ⟨v13, e13, f13⟩ := hf 13 _ 23 rfl rfl
  obtain rfl := (f13.2.2.2.2.2.2.2.2.2.2.2.2.2.1 rfl).symm
  obtain ⟨v14, e14, f14⟩ := hf 14 _ 24 rfl rfl
  obtain rfl := (f14.2.2.2.2.2.2.2.2.2.2.2.2.2.2.1 rfl).symm
  obtain ⟨v15, e15, f15⟩ := hf 15 _ 25 rfl rfl
  obtain rfl := (f15.2.2.2.2.2.2.2.2.2.2.2.2.2.2.2 rfl).symm
  rw [hoff.sets [(10, .bool true), (11, .bool false), (12, .bool false), (13, .agg #[.slice fa x.decls.length fc, .slice ga x.facts.length gc, .slice ha x.rules.length hc]), (14, .bool pb), (15, .agg #[.slice fa x.decls.length fc, .slice ga x.facts.length gc, .slice ha x.rules.length hc]), (16, .bool pb), (17, .bool false), (18, .bool false), (19, .bool false), (20, .agg #[.slice fa x.decls.length fc, .slice ga x.facts.length gc, .slice ha x.rules.length hc]), (21, .string TB), (22, .agg #[.slice fa x.decls.length fc, .slice ga x.facts.length gc, .slice ha x.rules.length hc]), (23, .string TB), (24, .bool false), (25, .bool false)] (by kernel_rfl) (by intro p hp; simp only [List.mem_cons, List.not_mem_nil, or_false] at hp; rcases hp with rfl | rfl | rfl | rfl | rfl | rfl | rfl | rfl | rfl | rfl | rfl | rfl | rfl | rfl | rfl | rfl <;> assumption)]
  clear hoff hf e0 f0 e1 f1 e2 f2 e3 f3 e4 f4 e5 f5 e6 f6 e7 f7 e8 f8 e9 f9 e10 f10 e11 f11 e12 f12 e13 f13 e14 f14 e15 f15
  simp only [List.foldl_cons, List.foldl_nil, List.setIfInBounds_toArray, List.set_cons_zero, List.set_cons_succ]
  have X3 := Lib.hid (X2.out.on hg); have B3 := Lib.hid (Below.step B2.out hg)
  clear hg HTB
  obtain ⟨p0, p1, p2⟩ := X3.out.cells
  go_wp2_with fail
  clear p0 p1 p2
  have HSZ := Lib.hid (fun k (hk : S k) => Nat.lt_of_lt_of_le (hS k hk) B3.out.size)
  go_loopw [4] (fun i wr => ∃ k : Nat, k ≤ x.facts.length ∧ k ≤ 64 ∧ i = .int .i64 k ∧ Below w3.heap.size w3 wr) (fun i _ => x.facts.length - (intOf i).toNat)
  case atStart => exact ⟨0, Nat.zero_le _, Nat.zero_le _, rfl, Below.refl _ _⟩
  case round =>
   obtain ⟨k, hk, hkm, rfl, hbel⟩ := hrel
   have HBEL := Lib.hid hbel; have HBL := Lib.hid (Below.step B3.out hbel)
   have XR := Lib.hid (X3.out.on hbel)
   obtain ⟨p0, p1, p2⟩ := XR.out.cells
   by_cases hl : k < x.facts.length
   ·by_cases h64 : k < 64
    ·have hA := (RepFas.on (fun _ h => h) (fun j hj => HBL.out.block j (hS j hj)) HFA.out : RepFas S wr x.facts (.slice ga x.facts.length gc))
     obtain ⟨-, hcap2, lb, lo, fa2, fc2, hga2, hSb, g0, g1, g⟩ := RepFas.at hA k hl
     have HGA2 := Lib.hid hga2
     have HLB : Hid (lb < wr.heap.size) := Nat.lt_of_lt_of_le (HSZ.out lb hSb) hbel.size
     have Q0 := Lib.hid g0; have Q1 := Lib.hid g1
     have G := Lib.hid g
     have HK1 : Hid ((0 : Int) ≤ (k : Int)) := Int.natCast_nonneg k
     have HK2 : Hid ((k : Int) < (x.facts.length : Int)) := by show _ < _; omega
     clear hA g hga2 hbel hSb g0 g1
     generalize x.facts[k] = y at *
     obtain ⟨TB, hTB⟩ : ∃ t : ByteArray, (⟨(told (faB y) (showFa y)).toArray⟩ : ByteArray) = t := ⟨_, rfl⟩
     have HTB := Lib.hid hTB
     clear hTB
     go_wp2_with fail
     clear p0 p1 p2
     refine wp_region_factsG (by rfl) 119 (by rfl) (by kernel_rfl) (fun _ iz vz => (iz = 0 → vz = .pointer (some ⟨w.heap.size, 1, none⟩)) ∧ (iz = 1 → vz = .slice (some ⟨lb, lo, none⟩) x.facts.length gc) ∧ (iz = 2 → vz = .int .i64 (k : Int)) ∧ (iz = 3 → vz = .pointer (some ⟨lb, lo + k * 2, none⟩)) ∧ (iz = 4 → vz = .agg #[.string y.name, .slice fa2 y.args.length fc2]) ∧ (iz = 5 → vz = .string TB) ∧ (iz = 6 → vz = .pointer (some ⟨w.heap.size, 1, none⟩)) ∧ (iz = 7 → vz = .slice (some ⟨lb, lo, none⟩) x.facts.length gc) ∧ (iz = 8 → vz = .int .i64 (k : Int)) ∧ (iz = 9 → vz = .pointer (some ⟨lb, lo + k * 2, none⟩)) ∧ (iz = 10 → vz = .agg #[.string y.name, .slice fa2 y.args.length fc2]) ∧ (iz = 11 → vz = .string TB) ∧ (iz = 12 → vz = .bool false)) (fun w' => Below wr.heap.size wr w') (Below.drew (Below.refl _ _)) ⟨?s0, ?s1, ?s2, ?s3, ?s4, ?s5, ?s6, ?s7, ?s8, ?s9, ?s10, ?s11, ?s12, trivial⟩ ?fin
     case s0 =>
      intro a w' hoff hg hdep K hK
      have h1 := off_at hoff 1 (v := .pointer (some ⟨w.heap.size, 0, none⟩)) (by kernel_rfl) rfl
      rw [if_pos (by rfl)]
      go_simp
      exact hK.out _ _ hg ⟨fun _ => rfl, nn,nn,nn,nn,nn,nn,nn,nn,nn,nn,nn,nn⟩ (fun _ _ h => h)
     case s1 =>
      intro a w' hoff hg hdep K hK
      obtain ⟨v0, e0, f0⟩ := hdep 0 _ 37 (by kernel_rfl) rfl rfl
      obtain rfl := (f0.1 rfl).symm
      rw [if_pos (by rfl)]
      obtain ⟨p0, p1, p2⟩ := (XR.out.on hg).cells; rw [HGA2.out] at p1; have q0 := (hg.cell (p := ⟨lb, lo + k * 2, none⟩) HLB.out).trans Q0.out; have q1 := (hg.cell (p := ⟨lb, lo + k * 2 + 1, none⟩) HLB.out).trans Q1.out
      go_simp
      exact hK.out _ _ hg ⟨nn, fun _ => rfl, nn,nn,nn,nn,nn,nn,nn,nn,nn,nn,nn⟩ (fun _ _ h => h)
     case s2 =>
      intro a w' hoff hg hdep K hK
      have h4 := off_at hoff 4 (v := .int .i64 (k : Int)) (by kernel_rfl) rfl
      rw [if_pos (by rfl)]
      go_simp
      exact hK.out _ _ hg ⟨nn,nn, fun _ => rfl, nn,nn,nn,nn,nn,nn,nn,nn,nn,nn⟩ (fun _ _ h => h)
     case s3 =>
      intro a w' hoff hg hdep K hK
      obtain ⟨v1, e1, f1⟩ := hdep 1 _ 38 (by kernel_rfl) rfl rfl
      obtain rfl := (f1.2.1 rfl).symm
      obtain ⟨v2, e2, f2⟩ := hdep 2 _ 39 (by kernel_rfl) rfl rfl
      obtain rfl := (f2.2.2.1 rfl).symm
      rw [if_pos (by rfl)]
      have hk1 := HK1.out; have hk2 := HK2.out
      go_simp
      exact hK.out _ _ hg ⟨nn,nn,nn, fun _ => rfl, nn,nn,nn,nn,nn,nn,nn,nn,nn⟩ (fun _ _ h => h)
     case s4 =>
      intro a w' hoff hg hdep K hK
      obtain ⟨v3, e3, f3⟩ := hdep 3 _ 40 (by kernel_rfl) rfl rfl
      obtain rfl := (f3.2.2.2.1 rfl).symm
      rw [if_pos (by rfl)]
      obtain ⟨p0, p1, p2⟩ := (XR.out.on hg).cells; rw [HGA2.out] at p1; have q0 := (hg.cell (p := ⟨lb, lo + k * 2, none⟩) HLB.out).trans Q0.out; have q1 := (hg.cell (p := ⟨lb, lo + k * 2 + 1, none⟩) HLB.out).trans Q1.out
      go_simp
      exact hK.out _ _ hg ⟨nn,nn,nn,nn, fun _ => rfl, nn,nn,nn,nn,nn,nn,nn,nn⟩ (fun _ _ h => h)
     case s5 =>
      intro a w' hoff hg hdep K hK
      obtain ⟨v4, e4, f4⟩ := hdep 4 _ 41 (by kernel_rfl) rfl rfl
      obtain rfl := (f4.2.2.2.2.1 rfl).symm
      rw [if_pos (by rfl)]
      go_simp
      refine (prFa_any y S _ _ _ (fun k hk => Nat.lt_of_lt_of_le (hS k hk) (Below.step HBL.out hg).size) (by have := HG.out; have := (Below.step HBL.out hg).size; omega) (HT.out.below HG.out (Below.step HBL.out hg)) (RepFa.on (fun _ h => h) (fun j hj => hg.block j (Nat.lt_of_lt_of_le (HSZ.out j hj) HBEL.out.size)) G.out) (fun h => showFa_fits h)).mono ?_
      rw [HTB.out]
      rintro e w2 ⟨rfl, hb⟩
      exact hK.out _ _ (Below.step hg hb) ⟨nn,nn,nn,nn,nn, fun _ => rfl, nn,nn,nn,nn,nn,nn,nn⟩ (fun _ _ h => h)
     case s6 =>
      intro a w' hoff hg hdep K hK
      have h1 := off_at hoff 1 (v := .pointer (some ⟨w.heap.size, 0, none⟩)) (by kernel_rfl) rfl
      rw [if_pos (by rfl)]
      go_simp
      exact hK.out _ _ hg ⟨nn,nn,nn,nn,nn,nn, fun _ => rfl, nn,nn,nn,nn,nn,nn⟩ (fun _ _ h => h)
     case s7 =>
      intro a w' hoff hg hdep K hK
      obtain ⟨v6, e6, f6⟩ := hdep 6 _ 43 (by kernel_rfl) rfl rfl
      obtain rfl := (f6.2.2.2.2.2.2.1 rfl).symm
      rw [if_pos (by rfl)]
      obtain ⟨p0, p1, p2⟩ := (XR.out.on hg).cells; rw [HGA2.out] at p1; have q0 := (hg.cell (p := ⟨lb, lo + k * 2, none⟩) HLB.out).trans Q0.out; have q1 := (hg.cell (p := ⟨lb, lo + k * 2 + 1, none⟩) HLB.out).trans Q1.out
      go_simp
      exact hK.out _ _ hg ⟨nn,nn,nn,nn,nn,nn,nn, fun _ => rfl, nn,nn,nn,nn,nn⟩ (fun _ _ h => h)
     case s8 =>
      intro a w' hoff hg hdep K hK
      have h4 := off_at hoff 4 (v := .int .i64 (k : Int)) (by kernel_rfl) rfl
      rw [if_pos (by rfl)]
      go_simp
      exact hK.out _ _ hg ⟨nn,nn,nn,nn,nn,nn,nn,nn, fun _ => rfl, nn,nn,nn,nn⟩ (fun _ _ h => h)
     case s9 =>
      intro a w' hoff hg hdep K hK
      obtain ⟨v7, e7, f7⟩ := hdep 7 _ 44 (by kernel_rfl) rfl rfl
      obtain rfl := (f7.2.2.2.2.2.2.2.1 rfl).symm
      obtain ⟨v8, e8, f8⟩ := hdep 8 _ 45 (by kernel_rfl) rfl rfl
      obtain rfl := (f8.2.2.2.2.2.2.2.2.1 rfl).symm
      rw [if_pos (by rfl)]
      have hk1 := HK1.out; have hk2 := HK2.out
      go_simp
      exact hK.out _ _ hg ⟨nn,nn,nn,nn,nn,nn,nn,nn,nn, fun _ => rfl, nn,nn,nn⟩ (fun _ _ h => h)
     case s10 =>
      intro a w' hoff hg hdep K hK
      obtain ⟨v9, e9, f9⟩ := hdep 9 _ 46 (by kernel_rfl) rfl rfl
      obtain rfl := (f9.2.2.2.2.2.2.2.2.2.1 rfl).symm
      rw [if_pos (by rfl)]
      obtain ⟨p0, p1, p2⟩ := (XR.out.on hg).cells; rw [HGA2.out] at p1; have q0 := (hg.cell (p := ⟨lb, lo + k * 2, none⟩) HLB.out).trans Q0.out; have q1 := (hg.cell (p := ⟨lb, lo + k * 2 + 1, none⟩) HLB.out).trans Q1.out
      go_simp
      exact hK.out _ _ hg ⟨nn,nn,nn,nn,nn,nn,nn,nn,nn,nn, fun _ => rfl, nn,nn⟩ (fun _ _ h => h)
     case s11 =>
      intro a w' hoff hg hdep K hK
      obtain ⟨v10, e10, f10⟩ := hdep 10 _ 47 (by kernel_rfl) rfl rfl
      obtain rfl := (f10.2.2.2.2.2.2.2.2.2.2.1 rfl).symm
      rw [if_pos (by rfl)]
      go_simp
      refine (refFaText_any y S _ _ _ (fun k hk => Nat.lt_of_lt_of_le (hS k hk) (Below.step HBL.out hg).size) (RepFa.on (fun _ h => h) (fun j hj => hg.block j (Nat.lt_of_lt_of_le (HSZ.out j hj) HBEL.out.size)) G.out) (fun h => showFa_fits h)).mono ?_
      rw [HTB.out]
      rintro e w2 ⟨rfl, hb⟩
      exact hK.out _ _ (Below.step hg hb) ⟨nn,nn,nn,nn,nn,nn,nn,nn,nn,nn,nn, fun _ => rfl, nn⟩ (fun _ _ h => h)
     case s12 =>
      intro a w' hoff hg hdep K hK
      obtain ⟨v5, e5, f5⟩ := hdep 5 _ 42 (by kernel_rfl) rfl rfl
      obtain rfl := (f5.2.2.2.2.2.1 rfl).symm
      obtain ⟨v11, e11, f11⟩ := hdep 11 _ 48 (by kernel_rfl) rfl rfl
      obtain rfl := (f11.2.2.2.2.2.2.2.2.2.2.2.1 rfl).symm
      rw [if_pos (by rfl)]
      go_simp
      exact hK.out _ _ hg ⟨nn,nn,nn,nn,nn,nn,nn,nn,nn,nn,nn,nn, fun _ => rfl⟩ (fun _ _ h => h)
     case fin =>
      intro a w9 hoff hg hf
      obtain ⟨v0, e0, f0⟩ := hf 0 _ 37 rfl rfl
      obtain rfl := (f0.1 rfl).symm
      obtain ⟨v1, e1, f1⟩ := hf 1 _ 38 rfl rfl
      obtain rfl := (f1.2.1 rfl).symm
      obtain ⟨v2, e2, f2⟩ := hf 2 _ 39 rfl rfl
      obtain rfl := (f2.2.2.1 rfl).symm
      obtain ⟨v3, e3, f3⟩ := hf 3 _ 40 rfl rfl
      obtain rfl := (f3.2.2.2.1 rfl).symm
      obtain ⟨v4, e4, f4⟩ := hf 4 _ 41 rfl rfl
      obtain rfl := (f4.2.2.2.2.1 rfl).symm
      obtain ⟨v5, e5, f5⟩ := hf 5 _ 42 rfl rfl
      obtain rfl := (f5.2.2.2.2.2.1 rfl).symm
      obtain ⟨v6, e6, f6⟩ := hf 6 _ 43 rfl rfl
      obtain rfl := (f6.2.2.2.2.2.2.1 rfl).symm
      obtain ⟨v7, e7, f7⟩ := hf 7 _ 44 rfl rfl
      obtain rfl := (f7.2.2.2.2.2.2.2.1 rfl).symm
      obtain ⟨v8, e8, f8⟩ := hf 8 _ 45 rfl rfl
      obtain rfl := (f8.2.2.2.2.2.2.2.2.1 rfl).symm
      obtain ⟨v9, e9, f9⟩ := hf 9 _ 46 rfl rfl
      obtain rfl := (f9.2.2.2.2.2.2.2.2.2.1 rfl).symm
      obtain ⟨v10, e10, f10⟩ := hf 10 _ 47 rfl rfl
      obtain rfl := (f10.2.2.2.2.2.2.2.2.2.2.1 rfl).symm
      obtain ⟨v11, e11, f11⟩ := hf 11 _ 48 rfl rfl
      obtain rfl := (f11.2.2.2.2.2.2.2.2.2.2.2.1 rfl).symm
      obtain ⟨v12, e12, f12⟩ := hf 12 _ 49 rfl rfl
      obtain rfl := (f12.2.2.2.2.2.2.2.2.2.2.2.2 rfl).symm
      rw [hoff.sets [(37, .pointer (some ⟨w.heap.size, 1, none⟩)), (38, .slice (some ⟨lb, lo, none⟩) x.facts.length gc), (39, .int .i64 (k : Int)), (40, .pointer (some ⟨lb, lo + k * 2, none⟩)), (41, .agg #[.string y.name, .slice fa2 y.args.length fc2]), (42, .string TB), (43, .pointer (some ⟨w.heap.size, 1, none⟩)), (44, .slice (some ⟨lb, lo, none⟩) x.facts.length gc), (45, .int .i64 (k : Int)), (46, .pointer (some ⟨lb, lo + k * 2, none⟩)), (47, .agg #[.string y.name, .slice fa2 y.args.length fc2]), (48, .string TB), (49, .bool false)] (by kernel_rfl) (by intro p hp; simp only [List.mem_cons, List.not_mem_nil, or_false] at hp; rcases hp with rfl | rfl | rfl | rfl | rfl | rfl | rfl | rfl | rfl | rfl | rfl | rfl | rfl <;> assumption)]
      clear hoff hf e0 f0 e1 f1 e2 f2 e3 f3 e4 f4 e5 f5 e6 f6 e7 f7 e8 f8 e9 f9 e10 f10 e11 f11 e12 f12
      simp only [List.foldl_cons, List.foldl_nil, List.setIfInBounds_toArray, List.set_cons_zero, List.set_cons_succ]
      go_wp2_with fail
      go_roundw
      case rel => exact ⟨k + 1, by omega, by omega, by go_num, Below.step HBEL.out hg⟩
      case measure => simp [intOf]; omega
    ·obtain rfl : k = 64 := by omega
     have B8 := Lib.hid HBL.out; have X8 := XR
     clear hbel HBEL HBL HSZ XR
     generalize wr = w8 at *
     have HLR := Lib.hid (RepRus.on (fun _ h => h) (fun k hk => B8.out.block k (hS k hk)) HR.out : RepRus S w8 x.rules (.slice ha x.rules.length hc))
     go_wp2_with fail
     clear p0 p1 p2
     have HSZ := Lib.hid (fun k (hk : S k) => Nat.lt_of_lt_of_le (hS k hk) B8.out.size)
     go_loopw [5, 6, 7, 8] (fun i _ _ _ wr => ∃ k : Nat, k ≤ x.rules.length ∧ k ≤ 64 ∧ i = .int .i64 k ∧ Below w8.heap.size w8 wr) (fun i _ _ _ _ => x.rules.length - (intOf i).toNat)
     case atStart => exact ⟨0, Nat.zero_le _, Nat.zero_le _, rfl, Below.refl _ _⟩
     case round =>
      obtain ⟨k2, hk, hkm, rfl, hbel⟩ := hrel
      generalize wr = wa at *
      have HBEL2 := Lib.hid hbel
      have XQ := Lib.hid (X8.out.on hbel)
      obtain ⟨p0, p1, p2⟩ := XQ.out.cells
      by_cases hl2 : k2 < x.rules.length
      ·by_cases h64 : k2 < 64
       ·have BA := Lib.hid (Below.step B8.out hbel)
        have hA := (RepRus.on (fun _ h => h) (fun j hj => hbel.block j (HSZ.out j hj)) HLR.out : RepRus S wa x.rules (.slice ha x.rules.length hc))
        obtain ⟨-, hcap2, lb, lo, fa, fc, ga, gc, hga2, hSb, g0, g1, g2, g3, g4, g5, g⟩ := RepRus.at hA k2 hl2
        rw [hga2] at p2
        have HRX := Lib.hid (RepRu.on (fun _ h => h) (fun k hk => (Below.block BA.out k (hS k hk)).symm) g : RepRu S w _ _ _ _ _ _ _)
        have hk1 : (0 : Int) ≤ (k2 : Int) := Int.natCast_nonneg k2
        have hk2 : (k2 : Int) < (x.rules.length : Int) := by omega
        clear hA g hga2 hbel hSb
        generalize x.rules[k2] = r at *
        have HRR := HRX
        have HRM : Hid (RepMs S w r.args (.slice fa r.args.length fc)) := HRX.out.2.2.2.2.2.2.2.2.1
        have HRL : Hid (RepLis S w r.body (.slice ga r.body.length gc)) := HRX.out.2.2.2.2.2.2.2.2.2
        obtain ⟨TB, hTB⟩ : ∃ t : ByteArray, (⟨(told (ruB r) (showRu r)).toArray⟩ : ByteArray) = t := ⟨_, rfl⟩
        have HTB := Lib.hid hTB
        clear hTB
        go_wp2_with fail
        have xr := boxRu_new wa (.string r.label) (.string r.head) (.slice fa r.args.length fc) (.string r.agg) (.int .i64 r.at') (.slice ga r.body.length gc)
        have br := below_alloc wa (.cells #[.string r.label, .string r.head, .slice fa r.args.length fc, .string r.agg, .int .i64 r.at', .slice ga r.body.length gc] 37)
        generalize wa.alloc (.cells #[.string r.label, .string r.head, .slice fa r.args.length fc, .string r.agg, .int .i64 r.at', .slice ga r.body.length gc] 37) = w4 at *
        generalize hbR : wa.heap.size = bR at xr ⊢
        have HBR := Lib.hid hbR
        have X4 := Lib.hid xr
        have B4 := Lib.hid (Below.step BA.out br)
        have HB1 := Lib.hid br
        clear xr br g0 g1 g2 g3 g4 g5 p0 p1 p2 hbR
        refine wp_region_factsG (by rfl) 119 (by rfl) (by kernel_rfl) (fun _ iz vz => (iz = 0 → vz = .agg #[.string r.label, .string r.head, .slice fa r.args.length fc, .string r.agg, .int .i64 r.at', .slice ga r.body.length gc]) ∧ (iz = 1 → vz = .string TB) ∧ (iz = 2 → vz = .agg #[.string r.label, .string r.head, .slice fa r.args.length fc, .string r.agg, .int .i64 r.at', .slice ga r.body.length gc]) ∧ (iz = 3 → vz = .string TB) ∧ (iz = 4 → vz = .bool false)) (fun w' => Below w4.heap.size w4 w') (Below.drew (Below.refl _ _)) ⟨?s0, ?s1, ?s2, ?s3, ?s4, trivial⟩ ?fin
        case s0 =>
         intro a w' hoff hg hdep K hK
         have h6 := off_at hoff 6 (v := .pointer (some ⟨bR, 0, none⟩)) (by kernel_rfl) rfl
         rw [if_pos (by rfl)]
         obtain ⟨p0, p1, p2, p3, p4, p5⟩ := (X4.out.on hg).cells
         go_simp
         exact hK.out _ _ hg ⟨fun _ => rfl, nn,nn,nn,nn⟩ (fun _ _ h => h)
        case s1 =>
         intro a w' hoff hg hdep K hK
         obtain ⟨v0, e0, f0⟩ := hdep 0 _ 66 (by kernel_rfl) rfl rfl
         obtain rfl := (f0.1 rfl).symm
         rw [if_pos (by rfl)]
         go_simp
         refine (prRu_any r S _ _ _ _ _ _ _ (fun k hk => Nat.lt_of_lt_of_le (hS k hk) (Below.step B4.out hg).size) (by have := HG.out; have := (Below.step B4.out hg).size; omega) (HT.out.below HG.out (Below.step B4.out hg)) (RepRu.on (fun _ h => h) (fun k hk => (Below.step B4.out hg).block k (hS k hk)) HRR.out) (fun h => showRu_fits h)).mono ?_
         rw [HTB.out]
         rintro e w2 ⟨rfl, hb⟩
         exact hK.out _ _ (Below.step hg hb) ⟨nn, fun _ => rfl, nn,nn,nn⟩ (fun _ _ h => h)
        case s2 =>
         intro a w' hoff hg hdep K hK
         have h6 := off_at hoff 6 (v := .pointer (some ⟨bR, 0, none⟩)) (by kernel_rfl) rfl
         rw [if_pos (by rfl)]
         obtain ⟨p0, p1, p2, p3, p4, p5⟩ := (X4.out.on hg).cells
         go_simp
         exact hK.out _ _ hg ⟨nn,nn, fun _ => rfl, nn,nn⟩ (fun _ _ h => h)
        case s3 =>
         intro a w' hoff hg hdep K hK
         obtain ⟨v2, e2, f2⟩ := hdep 2 _ 68 (by kernel_rfl) rfl rfl
         obtain rfl := (f2.2.2.1 rfl).symm
         rw [if_pos (by rfl)]
         go_simp
         refine (refRuText_any r S _ _ _ _ _ _ _ (fun k hk => Nat.lt_of_lt_of_le (hS k hk) (Below.step B4.out hg).size) (RepRu.on (fun _ h => h) (fun k hk => (Below.step B4.out hg).block k (hS k hk)) HRR.out)).mono ?_
         rw [HTB.out]
         rintro e w2 ⟨rfl, hb⟩
         exact hK.out _ _ (Below.step hg hb) ⟨nn,nn,nn, fun _ => rfl, nn⟩ (fun _ _ h => h)
        case s4 =>
         intro a w' hoff hg hdep K hK
         obtain ⟨v1, e1, f1⟩ := hdep 1 _ 67 (by kernel_rfl) rfl rfl
         obtain rfl := (f1.2.1 rfl).symm
         obtain ⟨v3, e3, f3⟩ := hdep 3 _ 69 (by kernel_rfl) rfl rfl
         obtain rfl := (f3.2.2.2.1 rfl).symm
         rw [if_pos (by rfl)]
         go_simp
         exact hK.out _ _ hg ⟨nn,nn,nn,nn, fun _ => rfl⟩ (fun _ _ h => h)
        case fin =>
         intro a w5 hoff hg hf
         obtain ⟨v0, e0, f0⟩ := hf 0 _ 66 rfl rfl
         obtain rfl := (f0.1 rfl).symm
         obtain ⟨v1, e1, f1⟩ := hf 1 _ 67 rfl rfl
         obtain rfl := (f1.2.1 rfl).symm
         obtain ⟨v2, e2, f2⟩ := hf 2 _ 68 rfl rfl
         obtain rfl := (f2.2.2.1 rfl).symm
         obtain ⟨v3, e3, f3⟩ := hf 3 _ 69 rfl rfl
         obtain rfl := (f3.2.2.2.1 rfl).symm
         obtain ⟨v4, e4, f4⟩ := hf 4 _ 70 rfl rfl
         obtain rfl := (f4.2.2.2.2 rfl).symm
         rw [hoff.sets [(66, .agg #[.string r.label, .string r.head, .slice fa r.args.length fc, .string r.agg, .int .i64 r.at', .slice ga r.body.length gc]), (67, .string TB), (68, .agg #[.string r.label, .string r.head, .slice fa r.args.length fc, .string r.agg, .int .i64 r.at', .slice ga r.body.length gc]), (69, .string TB), (70, .bool false)] (by kernel_rfl) (by intro p hp; simp only [List.mem_cons, List.not_mem_nil, or_false] at hp; rcases hp with rfl | rfl | rfl | rfl | rfl <;> assumption)]
         clear hoff hf e0 f0 e1 f1 e2 f2 e3 f3 e4 f4
         simp only [List.foldl_cons, List.foldl_nil, List.setIfInBounds_toArray, List.set_cons_zero, List.set_cons_succ]
         have X5 := Lib.hid (X4.out.on hg); have B5 := Lib.hid (Below.step B4.out hg)
         have HB2 := Lib.hid (Below.trans HB1.out (Below.mono hg HB1.out.size))
         clear hg
         obtain ⟨p0, p1, p2, p3, p4, p5⟩ := X5.out.cells
         go_wp2_with fail
         clear p0 p1 p2 p3 p4 p5
         have HSZ := Lib.hid (fun k (hk : S k) => Nat.lt_of_lt_of_le (hS k hk) B5.out.size)
         go_loopw [7] (fun i wr => ∃ k : Nat, k ≤ r.body.length ∧ k ≤ 9 ∧ i = .int .i64 k ∧ Below w5.heap.size w5 wr) (fun i _ => r.body.length - (intOf i).toNat)
         case atStart => exact ⟨0, Nat.zero_le _, Nat.zero_le _, rfl, Below.refl _ _⟩
         case round =>
          obtain ⟨k, hk, hkm, rfl, hbel⟩ := hrel
          have HBEL := Lib.hid hbel; have HBL := Lib.hid (Below.step B5.out hbel)
          have XR := Lib.hid (X5.out.on hbel)
          obtain ⟨p0, p1, p2, p3, p4, p5⟩ := XR.out.cells
          by_cases hl : k < r.body.length
          ·by_cases h64 : k < 9
           ·have hA := (RepLis.on (fun _ h => h) (fun j hj => HBL.out.block j (hS j hj)) HRL.out : RepLis S wr r.body (.slice ga r.body.length gc))
            obtain ⟨-, hcap2, lb, lo, fa2, fc2, hga2, hSb, g0, g1, g2, g⟩ := RepLis.at hA k hl
            have HGA2 := Lib.hid hga2
            have HLB : Hid (lb < wr.heap.size) := Nat.lt_of_lt_of_le (HSZ.out lb hSb) hbel.size
            have Q0 := Lib.hid g0; have Q1 := Lib.hid g1; have Q2 := Lib.hid g2
            have G := Lib.hid g
            have HK1 : Hid ((0 : Int) ≤ (k : Int)) := Int.natCast_nonneg k
            have HK2 : Hid ((k : Int) < (r.body.length : Int)) := by show _ < _; omega
            clear hA g hga2 hbel hSb g0 g1 g2
            generalize r.body[k] = y at *
            obtain ⟨TB, hTB⟩ : ∃ t : ByteArray, (⟨(told (liB y) (showLi y)).toArray⟩ : ByteArray) = t := ⟨_, rfl⟩
            have HTB := Lib.hid hTB
            clear hTB
            go_wp2_with fail
            clear p0 p1 p2 p3 p4 p5
            refine wp_region_factsG (by rfl) 119 (by rfl) (by kernel_rfl) (fun _ iz vz => (iz = 0 → vz = .pointer (some ⟨bR, 5, none⟩)) ∧ (iz = 1 → vz = .slice (some ⟨lb, lo, none⟩) r.body.length gc) ∧ (iz = 2 → vz = .int .i64 (k : Int)) ∧ (iz = 3 → vz = .pointer (some ⟨lb, lo + k * 3, none⟩)) ∧ (iz = 4 → vz = .agg #[.int .i64 y.kind, .string y.name, .slice fa2 y.args.length fc2]) ∧ (iz = 5 → vz = .string TB) ∧ (iz = 6 → vz = .pointer (some ⟨bR, 5, none⟩)) ∧ (iz = 7 → vz = .slice (some ⟨lb, lo, none⟩) r.body.length gc) ∧ (iz = 8 → vz = .int .i64 (k : Int)) ∧ (iz = 9 → vz = .pointer (some ⟨lb, lo + k * 3, none⟩)) ∧ (iz = 10 → vz = .agg #[.int .i64 y.kind, .string y.name, .slice fa2 y.args.length fc2]) ∧ (iz = 11 → vz = .string TB) ∧ (iz = 12 → vz = .bool false)) (fun w' => Below wr.heap.size wr w') (Below.drew (Below.refl _ _)) ⟨?s0, ?s1, ?s2, ?s3, ?s4, ?s5, ?s6, ?s7, ?s8, ?s9, ?s10, ?s11, ?s12, trivial⟩ ?fin
            case s0 =>
             intro a w' hoff hg hdep K hK
             have h6 := off_at hoff 6 (v := .pointer (some ⟨bR, 0, none⟩)) (by kernel_rfl) rfl
             rw [if_pos (by rfl)]
             go_simp
             exact hK.out _ _ hg ⟨fun _ => rfl, nn,nn,nn,nn,nn,nn,nn,nn,nn,nn,nn,nn⟩ (fun _ _ h => h)
            case s1 =>
             intro a w' hoff hg hdep K hK
             obtain ⟨v0, e0, f0⟩ := hdep 0 _ 82 (by kernel_rfl) rfl rfl
             obtain rfl := (f0.1 rfl).symm
             rw [if_pos (by rfl)]
             obtain ⟨p0, p1, p2, p3, p4, p5⟩ := (XR.out.on hg).cells; rw [HGA2.out] at p5; have q0 := (hg.cell (p := ⟨lb, lo + k * 3, none⟩) HLB.out).trans Q0.out; have q1 := (hg.cell (p := ⟨lb, lo + k * 3 + 1, none⟩) HLB.out).trans Q1.out; have q2 := (hg.cell (p := ⟨lb, lo + k * 3 + 2, none⟩) HLB.out).trans Q2.out
             go_simp
             exact hK.out _ _ hg ⟨nn, fun _ => rfl, nn,nn,nn,nn,nn,nn,nn,nn,nn,nn,nn⟩ (fun _ _ h => h)
            case s2 =>
             intro a w' hoff hg hdep K hK
             have h7 := off_at hoff 7 (v := .int .i64 (k : Int)) (by kernel_rfl) rfl
             rw [if_pos (by rfl)]
             go_simp
             exact hK.out _ _ hg ⟨nn,nn, fun _ => rfl, nn,nn,nn,nn,nn,nn,nn,nn,nn,nn⟩ (fun _ _ h => h)
            case s3 =>
             intro a w' hoff hg hdep K hK
             obtain ⟨v1, e1, f1⟩ := hdep 1 _ 83 (by kernel_rfl) rfl rfl
             obtain rfl := (f1.2.1 rfl).symm
             obtain ⟨v2, e2, f2⟩ := hdep 2 _ 84 (by kernel_rfl) rfl rfl
             obtain rfl := (f2.2.2.1 rfl).symm
             rw [if_pos (by rfl)]
             have hk1 := HK1.out; have hk2 := HK2.out
             go_simp
             exact hK.out _ _ hg ⟨nn,nn,nn, fun _ => rfl, nn,nn,nn,nn,nn,nn,nn,nn,nn⟩ (fun _ _ h => h)
            case s4 =>
             intro a w' hoff hg hdep K hK
             obtain ⟨v3, e3, f3⟩ := hdep 3 _ 85 (by kernel_rfl) rfl rfl
             obtain rfl := (f3.2.2.2.1 rfl).symm
             rw [if_pos (by rfl)]
             obtain ⟨p0, p1, p2, p3, p4, p5⟩ := (XR.out.on hg).cells; rw [HGA2.out] at p5; have q0 := (hg.cell (p := ⟨lb, lo + k * 3, none⟩) HLB.out).trans Q0.out; have q1 := (hg.cell (p := ⟨lb, lo + k * 3 + 1, none⟩) HLB.out).trans Q1.out; have q2 := (hg.cell (p := ⟨lb, lo + k * 3 + 2, none⟩) HLB.out).trans Q2.out
             go_simp
             exact hK.out _ _ hg ⟨nn,nn,nn,nn, fun _ => rfl, nn,nn,nn,nn,nn,nn,nn,nn⟩ (fun _ _ h => h)
            case s5 =>
             intro a w' hoff hg hdep K hK
             obtain ⟨v4, e4, f4⟩ := hdep 4 _ 86 (by kernel_rfl) rfl rfl
             obtain rfl := (f4.2.2.2.2.1 rfl).symm
             rw [if_pos (by rfl)]
             go_simp
             refine (prLi_any y S _ _ _ _ (fun k hk => Nat.lt_of_lt_of_le (hS k hk) (Below.step HBL.out hg).size) (by have := HG.out; have := (Below.step HBL.out hg).size; omega) (HT.out.below HG.out (Below.step HBL.out hg)) (RepLi.on (fun _ h => h) (fun j hj => hg.block j (Nat.lt_of_lt_of_le (HSZ.out j hj) HBEL.out.size)) G.out) (fun h => showLi_fits h)).mono ?_
             rw [HTB.out]
             rintro e w2 ⟨rfl, hb⟩
             exact hK.out _ _ (Below.step hg hb) ⟨nn,nn,nn,nn,nn, fun _ => rfl, nn,nn,nn,nn,nn,nn,nn⟩ (fun _ _ h => h)
            case s6 =>
             intro a w' hoff hg hdep K hK
             have h6 := off_at hoff 6 (v := .pointer (some ⟨bR, 0, none⟩)) (by kernel_rfl) rfl
             rw [if_pos (by rfl)]
             go_simp
             exact hK.out _ _ hg ⟨nn,nn,nn,nn,nn,nn, fun _ => rfl, nn,nn,nn,nn,nn,nn⟩ (fun _ _ h => h)
            case s7 =>
             intro a w' hoff hg hdep K hK
             obtain ⟨v6, e6, f6⟩ := hdep 6 _ 88 (by kernel_rfl) rfl rfl
             obtain rfl := (f6.2.2.2.2.2.2.1 rfl).symm
             rw [if_pos (by rfl)]
             obtain ⟨p0, p1, p2, p3, p4, p5⟩ := (XR.out.on hg).cells; rw [HGA2.out] at p5; have q0 := (hg.cell (p := ⟨lb, lo + k * 3, none⟩) HLB.out).trans Q0.out; have q1 := (hg.cell (p := ⟨lb, lo + k * 3 + 1, none⟩) HLB.out).trans Q1.out; have q2 := (hg.cell (p := ⟨lb, lo + k * 3 + 2, none⟩) HLB.out).trans Q2.out
             go_simp
             exact hK.out _ _ hg ⟨nn,nn,nn,nn,nn,nn,nn, fun _ => rfl, nn,nn,nn,nn,nn⟩ (fun _ _ h => h)
            case s8 =>
             intro a w' hoff hg hdep K hK
             have h7 := off_at hoff 7 (v := .int .i64 (k : Int)) (by kernel_rfl) rfl
             rw [if_pos (by rfl)]
             go_simp
             exact hK.out _ _ hg ⟨nn,nn,nn,nn,nn,nn,nn,nn, fun _ => rfl, nn,nn,nn,nn⟩ (fun _ _ h => h)
            case s9 =>
             intro a w' hoff hg hdep K hK
             obtain ⟨v7, e7, f7⟩ := hdep 7 _ 89 (by kernel_rfl) rfl rfl
             obtain rfl := (f7.2.2.2.2.2.2.2.1 rfl).symm
             obtain ⟨v8, e8, f8⟩ := hdep 8 _ 90 (by kernel_rfl) rfl rfl
             obtain rfl := (f8.2.2.2.2.2.2.2.2.1 rfl).symm
             rw [if_pos (by rfl)]
             have hk1 := HK1.out; have hk2 := HK2.out
             go_simp
             exact hK.out _ _ hg ⟨nn,nn,nn,nn,nn,nn,nn,nn,nn, fun _ => rfl, nn,nn,nn⟩ (fun _ _ h => h)
            case s10 =>
             intro a w' hoff hg hdep K hK
             obtain ⟨v9, e9, f9⟩ := hdep 9 _ 91 (by kernel_rfl) rfl rfl
             obtain rfl := (f9.2.2.2.2.2.2.2.2.2.1 rfl).symm
             rw [if_pos (by rfl)]
             obtain ⟨p0, p1, p2, p3, p4, p5⟩ := (XR.out.on hg).cells; rw [HGA2.out] at p5; have q0 := (hg.cell (p := ⟨lb, lo + k * 3, none⟩) HLB.out).trans Q0.out; have q1 := (hg.cell (p := ⟨lb, lo + k * 3 + 1, none⟩) HLB.out).trans Q1.out; have q2 := (hg.cell (p := ⟨lb, lo + k * 3 + 2, none⟩) HLB.out).trans Q2.out
             go_simp
             exact hK.out _ _ hg ⟨nn,nn,nn,nn,nn,nn,nn,nn,nn,nn, fun _ => rfl, nn,nn⟩ (fun _ _ h => h)
            case s11 =>
             intro a w' hoff hg hdep K hK
             obtain ⟨v10, e10, f10⟩ := hdep 10 _ 92 (by kernel_rfl) rfl rfl
             obtain rfl := (f10.2.2.2.2.2.2.2.2.2.2.1 rfl).symm
             rw [if_pos (by rfl)]
             go_simp
             refine (refLiText_any y S _ _ _ _ (fun k hk => Nat.lt_of_lt_of_le (hS k hk) (Below.step HBL.out hg).size) (RepLi.on (fun _ h => h) (fun j hj => hg.block j (Nat.lt_of_lt_of_le (HSZ.out j hj) HBEL.out.size)) G.out) (fun h => showLi_fits h)).mono ?_
             rw [HTB.out]
             rintro e w2 ⟨rfl, hb⟩
             exact hK.out _ _ (Below.step hg hb) ⟨nn,nn,nn,nn,nn,nn,nn,nn,nn,nn,nn, fun _ => rfl, nn⟩ (fun _ _ h => h)
            case s12 =>
             intro a w' hoff hg hdep K hK
             obtain ⟨v5, e5, f5⟩ := hdep 5 _ 87 (by kernel_rfl) rfl rfl
             obtain rfl := (f5.2.2.2.2.2.1 rfl).symm
             obtain ⟨v11, e11, f11⟩ := hdep 11 _ 93 (by kernel_rfl) rfl rfl
             obtain rfl := (f11.2.2.2.2.2.2.2.2.2.2.2.1 rfl).symm
             rw [if_pos (by rfl)]
             go_simp
             exact hK.out _ _ hg ⟨nn,nn,nn,nn,nn,nn,nn,nn,nn,nn,nn,nn, fun _ => rfl⟩ (fun _ _ h => h)
            case fin =>
             intro a w9 hoff hg hf
             obtain ⟨v0, e0, f0⟩ := hf 0 _ 82 rfl rfl
             obtain rfl := (f0.1 rfl).symm
             obtain ⟨v1, e1, f1⟩ := hf 1 _ 83 rfl rfl
             obtain rfl := (f1.2.1 rfl).symm
             obtain ⟨v2, e2, f2⟩ := hf 2 _ 84 rfl rfl
             obtain rfl := (f2.2.2.1 rfl).symm
             obtain ⟨v3, e3, f3⟩ := hf 3 _ 85 rfl rfl
             obtain rfl := (f3.2.2.2.1 rfl).symm
             obtain ⟨v4, e4, f4⟩ := hf 4 _ 86 rfl rfl
             obtain rfl := (f4.2.2.2.2.1 rfl).symm
             obtain ⟨v5, e5, f5⟩ := hf 5 _ 87 rfl rfl
             obtain rfl := (f5.2.2.2.2.2.1 rfl).symm
             obtain ⟨v6, e6, f6⟩ := hf 6 _ 88 rfl rfl
             obtain rfl := (f6.2.2.2.2.2.2.1 rfl).symm
             obtain ⟨v7, e7, f7⟩ := hf 7 _ 89 rfl rfl
             obtain rfl := (f7.2.2.2.2.2.2.2.1 rfl).symm
             obtain ⟨v8, e8, f8⟩ := hf 8 _ 90 rfl rfl
             obtain rfl := (f8.2.2.2.2.2.2.2.2.1 rfl).symm
             obtain ⟨v9, e9, f9⟩ := hf 9 _ 91 rfl rfl
             obtain rfl := (f9.2.2.2.2.2.2.2.2.2.1 rfl).symm
             obtain ⟨v10, e10, f10⟩ := hf 10 _ 92 rfl rfl
             obtain rfl := (f10.2.2.2.2.2.2.2.2.2.2.1 rfl).symm
             obtain ⟨v11, e11, f11⟩ := hf 11 _ 93 rfl rfl
             obtain rfl := (f11.2.2.2.2.2.2.2.2.2.2.2.1 rfl).symm
             obtain ⟨v12, e12, f12⟩ := hf 12 _ 94 rfl rfl
             obtain rfl := (f12.2.2.2.2.2.2.2.2.2.2.2.2 rfl).symm
             rw [hoff.sets [(82, .pointer (some ⟨bR, 5, none⟩)), (83, .slice (some ⟨lb, lo, none⟩) r.body.length gc), (84, .int .i64 (k : Int)), (85, .pointer (some ⟨lb, lo + k * 3, none⟩)), (86, .agg #[.int .i64 y.kind, .string y.name, .slice fa2 y.args.length fc2]), (87, .string TB), (88, .pointer (some ⟨bR, 5, none⟩)), (89, .slice (some ⟨lb, lo, none⟩) r.body.length gc), (90, .int .i64 (k : Int)), (91, .pointer (some ⟨lb, lo + k * 3, none⟩)), (92, .agg #[.int .i64 y.kind, .string y.name, .slice fa2 y.args.length fc2]), (93, .string TB), (94, .bool false)] (by kernel_rfl) (by intro p hp; simp only [List.mem_cons, List.not_mem_nil, or_false] at hp; rcases hp with rfl | rfl | rfl | rfl | rfl | rfl | rfl | rfl | rfl | rfl | rfl | rfl | rfl <;> assumption)]
             clear hoff hf e0 f0 e1 f1 e2 f2 e3 f3 e4 f4 e5 f5 e6 f6 e7 f7 e8 f8 e9 f9 e10 f10 e11 f11 e12 f12
             simp only [List.foldl_cons, List.foldl_nil, List.setIfInBounds_toArray, List.set_cons_zero, List.set_cons_succ]
             go_wp2_with fail
             go_roundw
             case rel => exact ⟨k + 1, by omega, by omega, by go_num, Below.step HBEL.out hg⟩
             case measure => simp [intOf]; omega
           ·obtain rfl : k = 9 := by omega
            have B6 := Lib.hid HBL.out; have X6 := XR
            have HB3 := Lib.hid (Below.trans HB2.out (Below.mono hbel HB2.out.size))
            clear hbel HBEL HBL HSZ XR
            generalize wr = w6 at *
            go_wp2_with fail
            clear p0 p1 p2 p3 p4 p5
            have HSZ := Lib.hid (fun k (hk : S k) => Nat.lt_of_lt_of_le (hS k hk) B6.out.size)
            go_loopw [8] (fun i wr => ∃ k : Nat, k ≤ r.args.length ∧ k ≤ 9 ∧ i = .int .i64 k ∧ Below w6.heap.size w6 wr) (fun i _ => r.args.length - (intOf i).toNat)
            case atStart => exact ⟨0, Nat.zero_le _, Nat.zero_le _, rfl, Below.refl _ _⟩
            case round =>
             obtain ⟨k, hk, hkm, rfl, hbel⟩ := hrel
             have HBEL := Lib.hid hbel; have HBL := Lib.hid (Below.step B6.out hbel)
             have XR := Lib.hid (X6.out.on hbel)
             obtain ⟨p0, p1, p2, p3, p4, p5⟩ := XR.out.cells
             by_cases hl : k < r.args.length
             ·by_cases h64 : k < 9
              ·have hA := (RepMs.on (fun _ h => h) (fun j hj => HBL.out.block j (hS j hj)) HRM.out : RepMs S wr r.args (.slice fa r.args.length fc))
               obtain ⟨-, hcap2, lb, lo, fa2, fc2, ga2, gc2, hga2, hSb, g0, g1, g2, g3, g4, g5, g6, g⟩ := RepMs.at hA k hl
               have HGA2 := Lib.hid hga2
               have HLB : Hid (lb < wr.heap.size) := Nat.lt_of_lt_of_le (HSZ.out lb hSb) hbel.size
               have Q0 := Lib.hid g0; have Q1 := Lib.hid g1; have Q2 := Lib.hid g2; have Q3 := Lib.hid g3; have Q4 := Lib.hid g4; have Q5 := Lib.hid g5; have Q6 := Lib.hid g6
               have G := Lib.hid g
               have HK1 : Hid ((0 : Int) ≤ (k : Int)) := Int.natCast_nonneg k
               have HK2 : Hid ((k : Int) < (r.args.length : Int)) := by show _ < _; omega
               clear hA g hga2 hbel hSb g0 g1 g2 g3 g4 g5 g6
               generalize r.args[k] = y at *
               obtain ⟨TB, hTB⟩ : ∃ t : ByteArray, (⟨(told (rightM 8 y) (showM y)).toArray⟩ : ByteArray) = t := ⟨_, rfl⟩
               have HTB := Lib.hid hTB
               clear hTB
               go_wp2_with fail
               clear p0 p1 p2 p3 p4 p5
               refine wp_region_factsG (by rfl) 119 (by rfl) (by kernel_rfl) (fun _ iz vz => (iz = 0 → vz = .pointer (some ⟨bR, 2, none⟩)) ∧ (iz = 1 → vz = .slice (some ⟨lb, lo, none⟩) r.args.length fc) ∧ (iz = 2 → vz = .int .i64 (k : Int)) ∧ (iz = 3 → vz = .pointer (some ⟨lb, lo + k * 7, none⟩)) ∧ (iz = 4 → vz = .agg #[.int .i64 y.kind, .string y.name, .int .i64 y.val.kind, .int .i64 y.val.num, .string y.val.text, .slice fa2 y.val.list.length fc2, .slice ga2 y.args.length gc2]) ∧ (iz = 5 → vz = .string TB) ∧ (iz = 6 → vz = .pointer (some ⟨bR, 2, none⟩)) ∧ (iz = 7 → vz = .slice (some ⟨lb, lo, none⟩) r.args.length fc) ∧ (iz = 8 → vz = .int .i64 (k : Int)) ∧ (iz = 9 → vz = .pointer (some ⟨lb, lo + k * 7, none⟩)) ∧ (iz = 10 → vz = .agg #[.int .i64 y.kind, .string y.name, .int .i64 y.val.kind, .int .i64 y.val.num, .string y.val.text, .slice fa2 y.val.list.length fc2, .slice ga2 y.args.length gc2]) ∧ (iz = 11 → vz = .string TB) ∧ (iz = 12 → vz = .bool false)) (fun w' => Below wr.heap.size wr w') (Below.drew (Below.refl _ _)) ⟨?s0, ?s1, ?s2, ?s3, ?s4, ?s5, ?s6, ?s7, ?s8, ?s9, ?s10, ?s11, ?s12, trivial⟩ ?fin
               case s0 =>
                intro a w' hoff hg hdep K hK
                have h6 := off_at hoff 6 (v := .pointer (some ⟨bR, 0, none⟩)) (by kernel_rfl) rfl
                rw [if_pos (by rfl)]
                go_simp
                exact hK.out _ _ hg ⟨fun _ => rfl, nn,nn,nn,nn,nn,nn,nn,nn,nn,nn,nn,nn⟩ (fun _ _ h => h)
               case s1 =>
                intro a w' hoff hg hdep K hK
                obtain ⟨v0, e0, f0⟩ := hdep 0 _ 106 (by kernel_rfl) rfl rfl
                obtain rfl := (f0.1 rfl).symm
                rw [if_pos (by rfl)]
                obtain ⟨p0, p1, p2, p3, p4, p5⟩ := (XR.out.on hg).cells; rw [HGA2.out] at p2; have q0 := (hg.cell (p := ⟨lb, lo + k * 7, none⟩) HLB.out).trans Q0.out; have q1 := (hg.cell (p := ⟨lb, lo + k * 7 + 1, none⟩) HLB.out).trans Q1.out; have q2 := (hg.cell (p := ⟨lb, lo + k * 7 + 2, none⟩) HLB.out).trans Q2.out; have q3 := (hg.cell (p := ⟨lb, lo + k * 7 + 3, none⟩) HLB.out).trans Q3.out; have q4 := (hg.cell (p := ⟨lb, lo + k * 7 + 4, none⟩) HLB.out).trans Q4.out; have q5 := (hg.cell (p := ⟨lb, lo + k * 7 + 5, none⟩) HLB.out).trans Q5.out; have q6 := (hg.cell (p := ⟨lb, lo + k * 7 + 6, none⟩) HLB.out).trans Q6.out
                go_simp
                exact hK.out _ _ hg ⟨nn, fun _ => rfl, nn,nn,nn,nn,nn,nn,nn,nn,nn,nn,nn⟩ (fun _ _ h => h)
               case s2 =>
                intro a w' hoff hg hdep K hK
                have h8 := off_at hoff 8 (v := .int .i64 (k : Int)) (by kernel_rfl) rfl
                rw [if_pos (by rfl)]
                go_simp
                exact hK.out _ _ hg ⟨nn,nn, fun _ => rfl, nn,nn,nn,nn,nn,nn,nn,nn,nn,nn⟩ (fun _ _ h => h)
               case s3 =>
                intro a w' hoff hg hdep K hK
                obtain ⟨v1, e1, f1⟩ := hdep 1 _ 107 (by kernel_rfl) rfl rfl
                obtain rfl := (f1.2.1 rfl).symm
                obtain ⟨v2, e2, f2⟩ := hdep 2 _ 108 (by kernel_rfl) rfl rfl
                obtain rfl := (f2.2.2.1 rfl).symm
                rw [if_pos (by rfl)]
                have hk1 := HK1.out; have hk2 := HK2.out
                go_simp
                exact hK.out _ _ hg ⟨nn,nn,nn, fun _ => rfl, nn,nn,nn,nn,nn,nn,nn,nn,nn⟩ (fun _ _ h => h)
               case s4 =>
                intro a w' hoff hg hdep K hK
                obtain ⟨v3, e3, f3⟩ := hdep 3 _ 109 (by kernel_rfl) rfl rfl
                obtain rfl := (f3.2.2.2.1 rfl).symm
                rw [if_pos (by rfl)]
                obtain ⟨p0, p1, p2, p3, p4, p5⟩ := (XR.out.on hg).cells; rw [HGA2.out] at p2; have q0 := (hg.cell (p := ⟨lb, lo + k * 7, none⟩) HLB.out).trans Q0.out; have q1 := (hg.cell (p := ⟨lb, lo + k * 7 + 1, none⟩) HLB.out).trans Q1.out; have q2 := (hg.cell (p := ⟨lb, lo + k * 7 + 2, none⟩) HLB.out).trans Q2.out; have q3 := (hg.cell (p := ⟨lb, lo + k * 7 + 3, none⟩) HLB.out).trans Q3.out; have q4 := (hg.cell (p := ⟨lb, lo + k * 7 + 4, none⟩) HLB.out).trans Q4.out; have q5 := (hg.cell (p := ⟨lb, lo + k * 7 + 5, none⟩) HLB.out).trans Q5.out; have q6 := (hg.cell (p := ⟨lb, lo + k * 7 + 6, none⟩) HLB.out).trans Q6.out
                go_simp
                exact hK.out _ _ hg ⟨nn,nn,nn,nn, fun _ => rfl, nn,nn,nn,nn,nn,nn,nn,nn⟩ (fun _ _ h => h)
               case s5 =>
                intro a w' hoff hg hdep K hK
                obtain ⟨v4, e4, f4⟩ := hdep 4 _ 110 (by kernel_rfl) rfl rfl
                obtain rfl := (f4.2.2.2.2.1 rfl).symm
                rw [if_pos (by rfl)]
                go_simp
                refine (prTm_any y S _ _ _ _ _ _ _ _ (fun k hk => Nat.lt_of_lt_of_le (hS k hk) (Below.step HBL.out hg).size) (by have := HG.out; have := (Below.step HBL.out hg).size; omega) (HT.out.below HG.out (Below.step HBL.out hg)) (RepM.on (fun _ h => h) (fun j hj => hg.block j (Nat.lt_of_lt_of_le (HSZ.out j hj) HBEL.out.size)) y G.out) (fun h => showM_fits h)).mono ?_
                rw [HTB.out]
                rintro e w2 ⟨rfl, hb⟩
                exact hK.out _ _ (Below.step hg hb) ⟨nn,nn,nn,nn,nn, fun _ => rfl, nn,nn,nn,nn,nn,nn,nn⟩ (fun _ _ h => h)
               case s6 =>
                intro a w' hoff hg hdep K hK
                have h6 := off_at hoff 6 (v := .pointer (some ⟨bR, 0, none⟩)) (by kernel_rfl) rfl
                rw [if_pos (by rfl)]
                go_simp
                exact hK.out _ _ hg ⟨nn,nn,nn,nn,nn,nn, fun _ => rfl, nn,nn,nn,nn,nn,nn⟩ (fun _ _ h => h)
               case s7 =>
                intro a w' hoff hg hdep K hK
                obtain ⟨v6, e6, f6⟩ := hdep 6 _ 112 (by kernel_rfl) rfl rfl
                obtain rfl := (f6.2.2.2.2.2.2.1 rfl).symm
                rw [if_pos (by rfl)]
                obtain ⟨p0, p1, p2, p3, p4, p5⟩ := (XR.out.on hg).cells; rw [HGA2.out] at p2; have q0 := (hg.cell (p := ⟨lb, lo + k * 7, none⟩) HLB.out).trans Q0.out; have q1 := (hg.cell (p := ⟨lb, lo + k * 7 + 1, none⟩) HLB.out).trans Q1.out; have q2 := (hg.cell (p := ⟨lb, lo + k * 7 + 2, none⟩) HLB.out).trans Q2.out; have q3 := (hg.cell (p := ⟨lb, lo + k * 7 + 3, none⟩) HLB.out).trans Q3.out; have q4 := (hg.cell (p := ⟨lb, lo + k * 7 + 4, none⟩) HLB.out).trans Q4.out; have q5 := (hg.cell (p := ⟨lb, lo + k * 7 + 5, none⟩) HLB.out).trans Q5.out; have q6 := (hg.cell (p := ⟨lb, lo + k * 7 + 6, none⟩) HLB.out).trans Q6.out
                go_simp
                exact hK.out _ _ hg ⟨nn,nn,nn,nn,nn,nn,nn, fun _ => rfl, nn,nn,nn,nn,nn⟩ (fun _ _ h => h)
               case s8 =>
                intro a w' hoff hg hdep K hK
                have h8 := off_at hoff 8 (v := .int .i64 (k : Int)) (by kernel_rfl) rfl
                rw [if_pos (by rfl)]
                go_simp
                exact hK.out _ _ hg ⟨nn,nn,nn,nn,nn,nn,nn,nn, fun _ => rfl, nn,nn,nn,nn⟩ (fun _ _ h => h)
               case s9 =>
                intro a w' hoff hg hdep K hK
                obtain ⟨v7, e7, f7⟩ := hdep 7 _ 113 (by kernel_rfl) rfl rfl
                obtain rfl := (f7.2.2.2.2.2.2.2.1 rfl).symm
                obtain ⟨v8, e8, f8⟩ := hdep 8 _ 114 (by kernel_rfl) rfl rfl
                obtain rfl := (f8.2.2.2.2.2.2.2.2.1 rfl).symm
                rw [if_pos (by rfl)]
                have hk1 := HK1.out; have hk2 := HK2.out
                go_simp
                exact hK.out _ _ hg ⟨nn,nn,nn,nn,nn,nn,nn,nn,nn, fun _ => rfl, nn,nn,nn⟩ (fun _ _ h => h)
               case s10 =>
                intro a w' hoff hg hdep K hK
                obtain ⟨v9, e9, f9⟩ := hdep 9 _ 115 (by kernel_rfl) rfl rfl
                obtain rfl := (f9.2.2.2.2.2.2.2.2.2.1 rfl).symm
                rw [if_pos (by rfl)]
                obtain ⟨p0, p1, p2, p3, p4, p5⟩ := (XR.out.on hg).cells; rw [HGA2.out] at p2; have q0 := (hg.cell (p := ⟨lb, lo + k * 7, none⟩) HLB.out).trans Q0.out; have q1 := (hg.cell (p := ⟨lb, lo + k * 7 + 1, none⟩) HLB.out).trans Q1.out; have q2 := (hg.cell (p := ⟨lb, lo + k * 7 + 2, none⟩) HLB.out).trans Q2.out; have q3 := (hg.cell (p := ⟨lb, lo + k * 7 + 3, none⟩) HLB.out).trans Q3.out; have q4 := (hg.cell (p := ⟨lb, lo + k * 7 + 4, none⟩) HLB.out).trans Q4.out; have q5 := (hg.cell (p := ⟨lb, lo + k * 7 + 5, none⟩) HLB.out).trans Q5.out; have q6 := (hg.cell (p := ⟨lb, lo + k * 7 + 6, none⟩) HLB.out).trans Q6.out
                go_simp
                exact hK.out _ _ hg ⟨nn,nn,nn,nn,nn,nn,nn,nn,nn,nn, fun _ => rfl, nn,nn⟩ (fun _ _ h => h)
               case s11 =>
                intro a w' hoff hg hdep K hK
                obtain ⟨v10, e10, f10⟩ := hdep 10 _ 116 (by kernel_rfl) rfl rfl
                obtain rfl := (f10.2.2.2.2.2.2.2.2.2.2.1 rfl).symm
                rw [if_pos (by rfl)]
                go_simp
                refine (refTmText_any y S _ _ _ _ _ _ _ _ (fun k hk => Nat.lt_of_lt_of_le (hS k hk) (Below.step HBL.out hg).size) (RepM.on (fun _ h => h) (fun j hj => hg.block j (Nat.lt_of_lt_of_le (HSZ.out j hj) HBEL.out.size)) y G.out) (fun h => showM_fits h)).mono ?_
                rw [HTB.out]
                rintro e w2 ⟨rfl, hb⟩
                exact hK.out _ _ (Below.step hg hb) ⟨nn,nn,nn,nn,nn,nn,nn,nn,nn,nn,nn, fun _ => rfl, nn⟩ (fun _ _ h => h)
               case s12 =>
                intro a w' hoff hg hdep K hK
                obtain ⟨v5, e5, f5⟩ := hdep 5 _ 111 (by kernel_rfl) rfl rfl
                obtain rfl := (f5.2.2.2.2.2.1 rfl).symm
                obtain ⟨v11, e11, f11⟩ := hdep 11 _ 117 (by kernel_rfl) rfl rfl
                obtain rfl := (f11.2.2.2.2.2.2.2.2.2.2.2.1 rfl).symm
                rw [if_pos (by rfl)]
                go_simp
                exact hK.out _ _ hg ⟨nn,nn,nn,nn,nn,nn,nn,nn,nn,nn,nn,nn, fun _ => rfl⟩ (fun _ _ h => h)
               case fin =>
                intro a w9 hoff hg hf
                obtain ⟨v0, e0, f0⟩ := hf 0 _ 106 rfl rfl
                obtain rfl := (f0.1 rfl).symm
                obtain ⟨v1, e1, f1⟩ := hf 1 _ 107 rfl rfl
                obtain rfl := (f1.2.1 rfl).symm
                obtain ⟨v2, e2, f2⟩ := hf 2 _ 108 rfl rfl
                obtain rfl := (f2.2.2.1 rfl).symm
                obtain ⟨v3, e3, f3⟩ := hf 3 _ 109 rfl rfl
                obtain rfl := (f3.2.2.2.1 rfl).symm
                obtain ⟨v4, e4, f4⟩ := hf 4 _ 110 rfl rfl
                obtain rfl := (f4.2.2.2.2.1 rfl).symm
                obtain ⟨v5, e5, f5⟩ := hf 5 _ 111 rfl rfl
                obtain rfl := (f5.2.2.2.2.2.1 rfl).symm
                obtain ⟨v6, e6, f6⟩ := hf 6 _ 112 rfl rfl
                obtain rfl := (f6.2.2.2.2.2.2.1 rfl).symm
                obtain ⟨v7, e7, f7⟩ := hf 7 _ 113 rfl rfl
                obtain rfl := (f7.2.2.2.2.2.2.2.1 rfl).symm
                obtain ⟨v8, e8, f8⟩ := hf 8 _ 114 rfl rfl
                obtain rfl := (f8.2.2.2.2.2.2.2.2.1 rfl).symm
                obtain ⟨v9, e9, f9⟩ := hf 9 _ 115 rfl rfl
                obtain rfl := (f9.2.2.2.2.2.2.2.2.2.1 rfl).symm
                obtain ⟨v10, e10, f10⟩ := hf 10 _ 116 rfl rfl
                obtain rfl := (f10.2.2.2.2.2.2.2.2.2.2.1 rfl).symm
                obtain ⟨v11, e11, f11⟩ := hf 11 _ 117 rfl rfl
                obtain rfl := (f11.2.2.2.2.2.2.2.2.2.2.2.1 rfl).symm
                obtain ⟨v12, e12, f12⟩ := hf 12 _ 118 rfl rfl
                obtain rfl := (f12.2.2.2.2.2.2.2.2.2.2.2.2 rfl).symm
                rw [hoff.sets [(106, .pointer (some ⟨bR, 2, none⟩)), (107, .slice (some ⟨lb, lo, none⟩) r.args.length fc), (108, .int .i64 (k : Int)), (109, .pointer (some ⟨lb, lo + k * 7, none⟩)), (110, .agg #[.int .i64 y.kind, .string y.name, .int .i64 y.val.kind, .int .i64 y.val.num, .string y.val.text, .slice fa2 y.val.list.length fc2, .slice ga2 y.args.length gc2]), (111, .string TB), (112, .pointer (some ⟨bR, 2, none⟩)), (113, .slice (some ⟨lb, lo, none⟩) r.args.length fc), (114, .int .i64 (k : Int)), (115, .pointer (some ⟨lb, lo + k * 7, none⟩)), (116, .agg #[.int .i64 y.kind, .string y.name, .int .i64 y.val.kind, .int .i64 y.val.num, .string y.val.text, .slice fa2 y.val.list.length fc2, .slice ga2 y.args.length gc2]), (117, .string TB), (118, .bool false)] (by kernel_rfl) (by intro p hp; simp only [List.mem_cons, List.not_mem_nil, or_false] at hp; rcases hp with rfl | rfl | rfl | rfl | rfl | rfl | rfl | rfl | rfl | rfl | rfl | rfl | rfl <;> assumption)]
                clear hoff hf e0 f0 e1 f1 e2 f2 e3 f3 e4 f4 e5 f5 e6 f6 e7 f7 e8 f8 e9 f9 e10 f10 e11 f11 e12 f12
                simp only [List.foldl_cons, List.foldl_nil, List.setIfInBounds_toArray, List.set_cons_zero, List.set_cons_succ]
                go_wp2_with fail
                go_roundw
                case rel => exact ⟨k + 1, by omega, by omega, by go_num, Below.step HBEL.out hg⟩
                case measure => simp [intOf]; omega
              ·obtain rfl : k = 9 := by omega
               have HB4 := Lib.hid (Below.trans HB3.out (Below.mono hbel HB3.out.size))
               clear hbel
               go_wp2_with fail
               go_roundw
               case rel => exact ⟨k2 + 1, by omega, by omega, by go_num, Below.trans HBEL2.out (Below.mono HB4.out HBEL2.out.size)⟩
               case measure => simp [intOf]; omega
             ·obtain rfl : k = r.args.length := by omega
              have HB4 := Lib.hid (Below.trans HB3.out (Below.mono hbel HB3.out.size))
              clear hbel
              go_wp2_with fail
              go_roundw
              case rel => exact ⟨k2 + 1, by omega, by omega, by go_num, Below.trans HBEL2.out (Below.mono HB4.out HBEL2.out.size)⟩
              case measure => simp [intOf]; omega
          ·obtain rfl : k = r.body.length := by omega
           have B6 := Lib.hid HBL.out; have X6 := XR
           have HB3 := Lib.hid (Below.trans HB2.out (Below.mono hbel HB2.out.size))
           clear hbel HBEL HBL HSZ XR
           generalize wr = w6 at *
           go_wp2_with fail
           clear p0 p1 p2 p3 p4 p5
           have HSZ := Lib.hid (fun k (hk : S k) => Nat.lt_of_lt_of_le (hS k hk) B6.out.size)
           go_loopw [8] (fun i wr => ∃ k : Nat, k ≤ r.args.length ∧ k ≤ 9 ∧ i = .int .i64 k ∧ Below w6.heap.size w6 wr) (fun i _ => r.args.length - (intOf i).toNat)
           case atStart => exact ⟨0, Nat.zero_le _, Nat.zero_le _, rfl, Below.refl _ _⟩
           case round =>
            obtain ⟨k, hk, hkm, rfl, hbel⟩ := hrel
            have HBEL := Lib.hid hbel; have HBL := Lib.hid (Below.step B6.out hbel)
            have XR := Lib.hid (X6.out.on hbel)
            obtain ⟨p0, p1, p2, p3, p4, p5⟩ := XR.out.cells
            by_cases hl : k < r.args.length
            ·by_cases h64 : k < 9
             ·have hA := (RepMs.on (fun _ h => h) (fun j hj => HBL.out.block j (hS j hj)) HRM.out : RepMs S wr r.args (.slice fa r.args.length fc))
              obtain ⟨-, hcap2, lb, lo, fa2, fc2, ga2, gc2, hga2, hSb, g0, g1, g2, g3, g4, g5, g6, g⟩ := RepMs.at hA k hl
              have HGA2 := Lib.hid hga2
              have HLB : Hid (lb < wr.heap.size) := Nat.lt_of_lt_of_le (HSZ.out lb hSb) hbel.size
              have Q0 := Lib.hid g0; have Q1 := Lib.hid g1; have Q2 := Lib.hid g2; have Q3 := Lib.hid g3; have Q4 := Lib.hid g4; have Q5 := Lib.hid g5; have Q6 := Lib.hid g6
              have G := Lib.hid g
              have HK1 : Hid ((0 : Int) ≤ (k : Int)) := Int.natCast_nonneg k
              have HK2 : Hid ((k : Int) < (r.args.length : Int)) := by show _ < _; omega
              clear hA g hga2 hbel hSb g0 g1 g2 g3 g4 g5 g6
              generalize r.args[k] = y at *
              obtain ⟨TB, hTB⟩ : ∃ t : ByteArray, (⟨(told (rightM 8 y) (showM y)).toArray⟩ : ByteArray) = t := ⟨_, rfl⟩
              have HTB := Lib.hid hTB
              clear hTB
              go_wp2_with fail
              clear p0 p1 p2 p3 p4 p5
              refine wp_region_factsG (by rfl) 119 (by rfl) (by kernel_rfl) (fun _ iz vz => (iz = 0 → vz = .pointer (some ⟨bR, 2, none⟩)) ∧ (iz = 1 → vz = .slice (some ⟨lb, lo, none⟩) r.args.length fc) ∧ (iz = 2 → vz = .int .i64 (k : Int)) ∧ (iz = 3 → vz = .pointer (some ⟨lb, lo + k * 7, none⟩)) ∧ (iz = 4 → vz = .agg #[.int .i64 y.kind, .string y.name, .int .i64 y.val.kind, .int .i64 y.val.num, .string y.val.text, .slice fa2 y.val.list.length fc2, .slice ga2 y.args.length gc2]) ∧ (iz = 5 → vz = .string TB) ∧ (iz = 6 → vz = .pointer (some ⟨bR, 2, none⟩)) ∧ (iz = 7 → vz = .slice (some ⟨lb, lo, none⟩) r.args.length fc) ∧ (iz = 8 → vz = .int .i64 (k : Int)) ∧ (iz = 9 → vz = .pointer (some ⟨lb, lo + k * 7, none⟩)) ∧ (iz = 10 → vz = .agg #[.int .i64 y.kind, .string y.name, .int .i64 y.val.kind, .int .i64 y.val.num, .string y.val.text, .slice fa2 y.val.list.length fc2, .slice ga2 y.args.length gc2]) ∧ (iz = 11 → vz = .string TB) ∧ (iz = 12 → vz = .bool false)) (fun w' => Below wr.heap.size wr w') (Below.drew (Below.refl _ _)) ⟨?s0, ?s1, ?s2, ?s3, ?s4, ?s5, ?s6, ?s7, ?s8, ?s9, ?s10, ?s11, ?s12, trivial⟩ ?fin
              case s0 =>
               intro a w' hoff hg hdep K hK
               have h6 := off_at hoff 6 (v := .pointer (some ⟨bR, 0, none⟩)) (by kernel_rfl) rfl
               rw [if_pos (by rfl)]
               go_simp
               exact hK.out _ _ hg ⟨fun _ => rfl, nn,nn,nn,nn,nn,nn,nn,nn,nn,nn,nn,nn⟩ (fun _ _ h => h)
              case s1 =>
               intro a w' hoff hg hdep K hK
               obtain ⟨v0, e0, f0⟩ := hdep 0 _ 106 (by kernel_rfl) rfl rfl
               obtain rfl := (f0.1 rfl).symm
               rw [if_pos (by rfl)]
               obtain ⟨p0, p1, p2, p3, p4, p5⟩ := (XR.out.on hg).cells; rw [HGA2.out] at p2; have q0 := (hg.cell (p := ⟨lb, lo + k * 7, none⟩) HLB.out).trans Q0.out; have q1 := (hg.cell (p := ⟨lb, lo + k * 7 + 1, none⟩) HLB.out).trans Q1.out; have q2 := (hg.cell (p := ⟨lb, lo + k * 7 + 2, none⟩) HLB.out).trans Q2.out; have q3 := (hg.cell (p := ⟨lb, lo + k * 7 + 3, none⟩) HLB.out).trans Q3.out; have q4 := (hg.cell (p := ⟨lb, lo + k * 7 + 4, none⟩) HLB.out).trans Q4.out; have q5 := (hg.cell (p := ⟨lb, lo + k * 7 + 5, none⟩) HLB.out).trans Q5.out; have q6 := (hg.cell (p := ⟨lb, lo + k * 7 + 6, none⟩) HLB.out).trans Q6.out
               go_simp
               exact hK.out _ _ hg ⟨nn, fun _ => rfl, nn,nn,nn,nn,nn,nn,nn,nn,nn,nn,nn⟩ (fun _ _ h => h)
              case s2 =>
               intro a w' hoff hg hdep K hK
               have h8 := off_at hoff 8 (v := .int .i64 (k : Int)) (by kernel_rfl) rfl
               rw [if_pos (by rfl)]
               go_simp
               exact hK.out _ _ hg ⟨nn,nn, fun _ => rfl, nn,nn,nn,nn,nn,nn,nn,nn,nn,nn⟩ (fun _ _ h => h)
              case s3 =>
               intro a w' hoff hg hdep K hK
               obtain ⟨v1, e1, f1⟩ := hdep 1 _ 107 (by kernel_rfl) rfl rfl
               obtain rfl := (f1.2.1 rfl).symm
               obtain ⟨v2, e2, f2⟩ := hdep 2 _ 108 (by kernel_rfl) rfl rfl
               obtain rfl := (f2.2.2.1 rfl).symm
               rw [if_pos (by rfl)]
               have hk1 := HK1.out; have hk2 := HK2.out
               go_simp
               exact hK.out _ _ hg ⟨nn,nn,nn, fun _ => rfl, nn,nn,nn,nn,nn,nn,nn,nn,nn⟩ (fun _ _ h => h)
              case s4 =>
               intro a w' hoff hg hdep K hK
               obtain ⟨v3, e3, f3⟩ := hdep 3 _ 109 (by kernel_rfl) rfl rfl
               obtain rfl := (f3.2.2.2.1 rfl).symm
               rw [if_pos (by rfl)]
               obtain ⟨p0, p1, p2, p3, p4, p5⟩ := (XR.out.on hg).cells; rw [HGA2.out] at p2; have q0 := (hg.cell (p := ⟨lb, lo + k * 7, none⟩) HLB.out).trans Q0.out; have q1 := (hg.cell (p := ⟨lb, lo + k * 7 + 1, none⟩) HLB.out).trans Q1.out; have q2 := (hg.cell (p := ⟨lb, lo + k * 7 + 2, none⟩) HLB.out).trans Q2.out; have q3 := (hg.cell (p := ⟨lb, lo + k * 7 + 3, none⟩) HLB.out).trans Q3.out; have q4 := (hg.cell (p := ⟨lb, lo + k * 7 + 4, none⟩) HLB.out).trans Q4.out; have q5 := (hg.cell (p := ⟨lb, lo + k * 7 + 5, none⟩) HLB.out).trans Q5.out; have q6 := (hg.cell (p := ⟨lb, lo + k * 7 + 6, none⟩) HLB.out).trans Q6.out
               go_simp
               exact hK.out _ _ hg ⟨nn,nn,nn,nn, fun _ => rfl, nn,nn,nn,nn,nn,nn,nn,nn⟩ (fun _ _ h => h)
              case s5 =>
               intro a w' hoff hg hdep K hK
               obtain ⟨v4, e4, f4⟩ := hdep 4 _ 110 (by kernel_rfl) rfl rfl
               obtain rfl := (f4.2.2.2.2.1 rfl).symm
               rw [if_pos (by rfl)]
               go_simp
               refine (prTm_any y S _ _ _ _ _ _ _ _ (fun k hk => Nat.lt_of_lt_of_le (hS k hk) (Below.step HBL.out hg).size) (by have := HG.out; have := (Below.step HBL.out hg).size; omega) (HT.out.below HG.out (Below.step HBL.out hg)) (RepM.on (fun _ h => h) (fun j hj => hg.block j (Nat.lt_of_lt_of_le (HSZ.out j hj) HBEL.out.size)) y G.out) (fun h => showM_fits h)).mono ?_
               rw [HTB.out]
               rintro e w2 ⟨rfl, hb⟩
               exact hK.out _ _ (Below.step hg hb) ⟨nn,nn,nn,nn,nn, fun _ => rfl, nn,nn,nn,nn,nn,nn,nn⟩ (fun _ _ h => h)
              case s6 =>
               intro a w' hoff hg hdep K hK
               have h6 := off_at hoff 6 (v := .pointer (some ⟨bR, 0, none⟩)) (by kernel_rfl) rfl
               rw [if_pos (by rfl)]
               go_simp
               exact hK.out _ _ hg ⟨nn,nn,nn,nn,nn,nn, fun _ => rfl, nn,nn,nn,nn,nn,nn⟩ (fun _ _ h => h)
              case s7 =>
               intro a w' hoff hg hdep K hK
               obtain ⟨v6, e6, f6⟩ := hdep 6 _ 112 (by kernel_rfl) rfl rfl
               obtain rfl := (f6.2.2.2.2.2.2.1 rfl).symm
               rw [if_pos (by rfl)]
               obtain ⟨p0, p1, p2, p3, p4, p5⟩ := (XR.out.on hg).cells; rw [HGA2.out] at p2; have q0 := (hg.cell (p := ⟨lb, lo + k * 7, none⟩) HLB.out).trans Q0.out; have q1 := (hg.cell (p := ⟨lb, lo + k * 7 + 1, none⟩) HLB.out).trans Q1.out; have q2 := (hg.cell (p := ⟨lb, lo + k * 7 + 2, none⟩) HLB.out).trans Q2.out; have q3 := (hg.cell (p := ⟨lb, lo + k * 7 + 3, none⟩) HLB.out).trans Q3.out; have q4 := (hg.cell (p := ⟨lb, lo + k * 7 + 4, none⟩) HLB.out).trans Q4.out; have q5 := (hg.cell (p := ⟨lb, lo + k * 7 + 5, none⟩) HLB.out).trans Q5.out; have q6 := (hg.cell (p := ⟨lb, lo + k * 7 + 6, none⟩) HLB.out).trans Q6.out
               go_simp
               exact hK.out _ _ hg ⟨nn,nn,nn,nn,nn,nn,nn, fun _ => rfl, nn,nn,nn,nn,nn⟩ (fun _ _ h => h)
              case s8 =>
               intro a w' hoff hg hdep K hK
               have h8 := off_at hoff 8 (v := .int .i64 (k : Int)) (by kernel_rfl) rfl
               rw [if_pos (by rfl)]
               go_simp
               exact hK.out _ _ hg ⟨nn,nn,nn,nn,nn,nn,nn,nn, fun _ => rfl, nn,nn,nn,nn⟩ (fun _ _ h => h)
              case s9 =>
               intro a w' hoff hg hdep K hK
               obtain ⟨v7, e7, f7⟩ := hdep 7 _ 113 (by kernel_rfl) rfl rfl
               obtain rfl := (f7.2.2.2.2.2.2.2.1 rfl).symm
               obtain ⟨v8, e8, f8⟩ := hdep 8 _ 114 (by kernel_rfl) rfl rfl
               obtain rfl := (f8.2.2.2.2.2.2.2.2.1 rfl).symm
               rw [if_pos (by rfl)]
               have hk1 := HK1.out; have hk2 := HK2.out
               go_simp
               exact hK.out _ _ hg ⟨nn,nn,nn,nn,nn,nn,nn,nn,nn, fun _ => rfl, nn,nn,nn⟩ (fun _ _ h => h)
              case s10 =>
               intro a w' hoff hg hdep K hK
               obtain ⟨v9, e9, f9⟩ := hdep 9 _ 115 (by kernel_rfl) rfl rfl
               obtain rfl := (f9.2.2.2.2.2.2.2.2.2.1 rfl).symm
               rw [if_pos (by rfl)]
               obtain ⟨p0, p1, p2, p3, p4, p5⟩ := (XR.out.on hg).cells; rw [HGA2.out] at p2; have q0 := (hg.cell (p := ⟨lb, lo + k * 7, none⟩) HLB.out).trans Q0.out; have q1 := (hg.cell (p := ⟨lb, lo + k * 7 + 1, none⟩) HLB.out).trans Q1.out; have q2 := (hg.cell (p := ⟨lb, lo + k * 7 + 2, none⟩) HLB.out).trans Q2.out; have q3 := (hg.cell (p := ⟨lb, lo + k * 7 + 3, none⟩) HLB.out).trans Q3.out; have q4 := (hg.cell (p := ⟨lb, lo + k * 7 + 4, none⟩) HLB.out).trans Q4.out; have q5 := (hg.cell (p := ⟨lb, lo + k * 7 + 5, none⟩) HLB.out).trans Q5.out; have q6 := (hg.cell (p := ⟨lb, lo + k * 7 + 6, none⟩) HLB.out).trans Q6.out
               go_simp
               exact hK.out _ _ hg ⟨nn,nn,nn,nn,nn,nn,nn,nn,nn,nn, fun _ => rfl, nn,nn⟩ (fun _ _ h => h)
              case s11 =>
               intro a w' hoff hg hdep K hK
               obtain ⟨v10, e10, f10⟩ := hdep 10 _ 116 (by kernel_rfl) rfl rfl
               obtain rfl := (f10.2.2.2.2.2.2.2.2.2.2.1 rfl).symm
               rw [if_pos (by rfl)]
               go_simp
               refine (refTmText_any y S _ _ _ _ _ _ _ _ (fun k hk => Nat.lt_of_lt_of_le (hS k hk) (Below.step HBL.out hg).size) (RepM.on (fun _ h => h) (fun j hj => hg.block j (Nat.lt_of_lt_of_le (HSZ.out j hj) HBEL.out.size)) y G.out) (fun h => showM_fits h)).mono ?_
               rw [HTB.out]
               rintro e w2 ⟨rfl, hb⟩
               exact hK.out _ _ (Below.step hg hb) ⟨nn,nn,nn,nn,nn,nn,nn,nn,nn,nn,nn, fun _ => rfl, nn⟩ (fun _ _ h => h)
              case s12 =>
               intro a w' hoff hg hdep K hK
               obtain ⟨v5, e5, f5⟩ := hdep 5 _ 111 (by kernel_rfl) rfl rfl
               obtain rfl := (f5.2.2.2.2.2.1 rfl).symm
               obtain ⟨v11, e11, f11⟩ := hdep 11 _ 117 (by kernel_rfl) rfl rfl
               obtain rfl := (f11.2.2.2.2.2.2.2.2.2.2.2.1 rfl).symm
               rw [if_pos (by rfl)]
               go_simp
               exact hK.out _ _ hg ⟨nn,nn,nn,nn,nn,nn,nn,nn,nn,nn,nn,nn, fun _ => rfl⟩ (fun _ _ h => h)
              case fin =>
               intro a w9 hoff hg hf
               obtain ⟨v0, e0, f0⟩ := hf 0 _ 106 rfl rfl
               obtain rfl := (f0.1 rfl).symm
               obtain ⟨v1, e1, f1⟩ := hf 1 _ 107 rfl rfl
               obtain rfl := (f1.2.1 rfl).symm
               obtain ⟨v2, e2, f2⟩ := hf 2 _ 108 rfl rfl
               obtain rfl := (f2.2.2.1 rfl).symm
               obtain ⟨v3, e3, f3⟩ := hf 3 _ 109 rfl rfl
               obtain rfl := (f3.2.2.2.1 rfl).symm
               obtain ⟨v4, e4, f4⟩ := hf 4 _ 110 rfl rfl
               obtain rfl := (f4.2.2.2.2.1 rfl).symm
               obtain ⟨v5, e5, f5⟩ := hf 5 _ 111 rfl rfl
               obtain rfl := (f5.2.2.2.2.2.1 rfl).symm
               obtain ⟨v6, e6, f6⟩ := hf 6 _ 112 rfl rfl
               obtain rfl := (f6.2.2.2.2.2.2.1 rfl).symm
               obtain ⟨v7, e7, f7⟩ := hf 7 _ 113 rfl rfl
               obtain rfl := (f7.2.2.2.2.2.2.2.1 rfl).symm
               obtain ⟨v8, e8, f8⟩ := hf 8 _ 114 rfl rfl
               obtain rfl := (f8.2.2.2.2.2.2.2.2.1 rfl).symm
               obtain ⟨v9, e9, f9⟩ := hf 9 _ 115 rfl rfl
               obtain rfl := (f9.2.2.2.2.2.2.2.2.2.1 rfl).symm
               obtain ⟨v10, e10, f10⟩ := hf 10 _ 116 rfl rfl
               obtain rfl := (f10.2.2.2.2.2.2.2.2.2.2.1 rfl).symm
               obtain ⟨v11, e11, f11⟩ := hf 11 _ 117 rfl rfl
               obtain rfl := (f11.2.2.2.2.2.2.2.2.2.2.2.1 rfl).symm
               obtain ⟨v12, e12, f12⟩ := hf 12 _ 118 rfl rfl
               obtain rfl := (f12.2.2.2.2.2.2.2.2.2.2.2.2 rfl).symm
               rw [hoff.sets [(106, .pointer (some ⟨bR, 2, none⟩)), (107, .slice (some ⟨lb, lo, none⟩) r.args.length fc), (108, .int .i64 (k : Int)), (109, .pointer (some ⟨lb, lo + k * 7, none⟩)), (110, .agg #[.int .i64 y.kind, .string y.name, .int .i64 y.val.kind, .int .i64 y.val.num, .string y.val.text, .slice fa2 y.val.list.length fc2, .slice ga2 y.args.length gc2]), (111, .string TB), (112, .pointer (some ⟨bR, 2, none⟩)), (113, .slice (some ⟨lb, lo, none⟩) r.args.length fc), (114, .int .i64 (k : Int)), (115, .pointer (some ⟨lb, lo + k * 7, none⟩)), (116, .agg #[.int .i64 y.kind, .string y.name, .int .i64 y.val.kind, .int .i64 y.val.num, .string y.val.text, .slice fa2 y.val.list.length fc2, .slice ga2 y.args.length gc2]), (117, .string TB), (118, .bool false)] (by kernel_rfl) (by intro p hp; simp only [List.mem_cons, List.not_mem_nil, or_false] at hp; rcases hp with rfl | rfl | rfl | rfl | rfl | rfl | rfl | rfl | rfl | rfl | rfl | rfl | rfl <;> assumption)]
               clear hoff hf e0 f0 e1 f1 e2 f2 e3 f3 e4 f4 e5 f5 e6 f6 e7 f7 e8 f8 e9 f9 e10 f10 e11 f11 e12 f12
               simp only [List.foldl_cons, List.foldl_nil, List.setIfInBounds_toArray, List.set_cons_zero, List.set_cons_succ]
               go_wp2_with fail
               go_roundw
               case rel => exact ⟨k + 1, by omega, by omega, by go_num, Below.step HBEL.out hg⟩
               case measure => simp [intOf]; omega
             ·obtain rfl : k = 9 := by omega
              have HB4 := Lib.hid (Below.trans HB3.out (Below.mono hbel HB3.out.size))
              clear hbel
              go_wp2_with fail
              go_roundw
              case rel => exact ⟨k2 + 1, by omega, by omega, by go_num, Below.trans HBEL2.out (Below.mono HB4.out HBEL2.out.size)⟩
              case measure => simp [intOf]; omega
            ·obtain rfl : k = r.args.length := by omega
             have HB4 := Lib.hid (Below.trans HB3.out (Below.mono hbel HB3.out.size))
             clear hbel
             go_wp2_with fail
             go_roundw
             case rel => exact ⟨k2 + 1, by omega, by omega, by go_num, Below.trans HBEL2.out (Below.mono HB4.out HBEL2.out.size)⟩
             case measure => simp [intOf]; omega
       ·obtain rfl : k2 = 64 := by omega
        have B9 := Lib.hid (Below.step B8.out hbel)
        go_wp2_with fail
        go_ret
        exact ⟨rfl, B9.out⟩
      ·obtain rfl : k2 = x.rules.length := by omega
       have B9 := Lib.hid (Below.step B8.out hbel)
       go_wp2_with fail
       go_ret
       exact ⟨rfl, B9.out⟩
   ·obtain rfl : k = x.facts.length := by omega
    have B8 := Lib.hid HBL.out; have X8 := XR
    clear hbel HBEL HBL HSZ XR
    generalize wr = w8 at *
    have HLR := Lib.hid (RepRus.on (fun _ h => h) (fun k hk => B8.out.block k (hS k hk)) HR.out : RepRus S w8 x.rules (.slice ha x.rules.length hc))
    go_wp2_with fail
    clear p0 p1 p2
    have HSZ := Lib.hid (fun k (hk : S k) => Nat.lt_of_lt_of_le (hS k hk) B8.out.size)
    go_loopw [5, 6, 7, 8] (fun i _ _ _ wr => ∃ k : Nat, k ≤ x.rules.length ∧ k ≤ 64 ∧ i = .int .i64 k ∧ Below w8.heap.size w8 wr) (fun i _ _ _ _ => x.rules.length - (intOf i).toNat)
    case atStart => exact ⟨0, Nat.zero_le _, Nat.zero_le _, rfl, Below.refl _ _⟩
    case round =>
     obtain ⟨k2, hk, hkm, rfl, hbel⟩ := hrel
     generalize wr = wa at *
     have HBEL2 := Lib.hid hbel
     have XQ := Lib.hid (X8.out.on hbel)
     obtain ⟨p0, p1, p2⟩ := XQ.out.cells
     by_cases hl2 : k2 < x.rules.length
     ·by_cases h64 : k2 < 64
      ·have BA := Lib.hid (Below.step B8.out hbel)
       have hA := (RepRus.on (fun _ h => h) (fun j hj => hbel.block j (HSZ.out j hj)) HLR.out : RepRus S wa x.rules (.slice ha x.rules.length hc))
       obtain ⟨-, hcap2, lb, lo, fa, fc, ga, gc, hga2, hSb, g0, g1, g2, g3, g4, g5, g⟩ := RepRus.at hA k2 hl2
       rw [hga2] at p2
       have HRX := Lib.hid (RepRu.on (fun _ h => h) (fun k hk => (Below.block BA.out k (hS k hk)).symm) g : RepRu S w _ _ _ _ _ _ _)
       have hk1 : (0 : Int) ≤ (k2 : Int) := Int.natCast_nonneg k2
       have hk2 : (k2 : Int) < (x.rules.length : Int) := by omega
       clear hA g hga2 hbel hSb
       generalize x.rules[k2] = r at *
       have HRR := HRX
       have HRM : Hid (RepMs S w r.args (.slice fa r.args.length fc)) := HRX.out.2.2.2.2.2.2.2.2.1
       have HRL : Hid (RepLis S w r.body (.slice ga r.body.length gc)) := HRX.out.2.2.2.2.2.2.2.2.2
       obtain ⟨TB, hTB⟩ : ∃ t : ByteArray, (⟨(told (ruB r) (showRu r)).toArray⟩ : ByteArray) = t := ⟨_, rfl⟩
       have HTB := Lib.hid hTB
       clear hTB
       go_wp2_with fail
       have xr := boxRu_new wa (.string r.label) (.string r.head) (.slice fa r.args.length fc) (.string r.agg) (.int .i64 r.at') (.slice ga r.body.length gc)
       have br := below_alloc wa (.cells #[.string r.label, .string r.head, .slice fa r.args.length fc, .string r.agg, .int .i64 r.at', .slice ga r.body.length gc] 37)
       generalize wa.alloc (.cells #[.string r.label, .string r.head, .slice fa r.args.length fc, .string r.agg, .int .i64 r.at', .slice ga r.body.length gc] 37) = w4 at *
       generalize hbR : wa.heap.size = bR at xr ⊢
       have HBR := Lib.hid hbR
       have X4 := Lib.hid xr
       have B4 := Lib.hid (Below.step BA.out br)
       have HB1 := Lib.hid br
       clear xr br g0 g1 g2 g3 g4 g5 p0 p1 p2 hbR
       refine wp_region_factsG (by rfl) 119 (by rfl) (by kernel_rfl) (fun _ iz vz => (iz = 0 → vz = .agg #[.string r.label, .string r.head, .slice fa r.args.length fc, .string r.agg, .int .i64 r.at', .slice ga r.body.length gc]) ∧ (iz = 1 → vz = .string TB) ∧ (iz = 2 → vz = .agg #[.string r.label, .string r.head, .slice fa r.args.length fc, .string r.agg, .int .i64 r.at', .slice ga r.body.length gc]) ∧ (iz = 3 → vz = .string TB) ∧ (iz = 4 → vz = .bool false)) (fun w' => Below w4.heap.size w4 w') (Below.drew (Below.refl _ _)) ⟨?s0, ?s1, ?s2, ?s3, ?s4, trivial⟩ ?fin
       case s0 =>
        intro a w' hoff hg hdep K hK
        have h6 := off_at hoff 6 (v := .pointer (some ⟨bR, 0, none⟩)) (by kernel_rfl) rfl
        rw [if_pos (by rfl)]
        obtain ⟨p0, p1, p2, p3, p4, p5⟩ := (X4.out.on hg).cells
        go_simp
        exact hK.out _ _ hg ⟨fun _ => rfl, nn,nn,nn,nn⟩ (fun _ _ h => h)
       case s1 =>
        intro a w' hoff hg hdep K hK
        obtain ⟨v0, e0, f0⟩ := hdep 0 _ 66 (by kernel_rfl) rfl rfl
        obtain rfl := (f0.1 rfl).symm
        rw [if_pos (by rfl)]
        go_simp
        refine (prRu_any r S _ _ _ _ _ _ _ (fun k hk => Nat.lt_of_lt_of_le (hS k hk) (Below.step B4.out hg).size) (by have := HG.out; have := (Below.step B4.out hg).size; omega) (HT.out.below HG.out (Below.step B4.out hg)) (RepRu.on (fun _ h => h) (fun k hk => (Below.step B4.out hg).block k (hS k hk)) HRR.out) (fun h => showRu_fits h)).mono ?_
        rw [HTB.out]
        rintro e w2 ⟨rfl, hb⟩
        exact hK.out _ _ (Below.step hg hb) ⟨nn, fun _ => rfl, nn,nn,nn⟩ (fun _ _ h => h)
       case s2 =>
        intro a w' hoff hg hdep K hK
        have h6 := off_at hoff 6 (v := .pointer (some ⟨bR, 0, none⟩)) (by kernel_rfl) rfl
        rw [if_pos (by rfl)]
        obtain ⟨p0, p1, p2, p3, p4, p5⟩ := (X4.out.on hg).cells
        go_simp
        exact hK.out _ _ hg ⟨nn,nn, fun _ => rfl, nn,nn⟩ (fun _ _ h => h)
       case s3 =>
        intro a w' hoff hg hdep K hK
        obtain ⟨v2, e2, f2⟩ := hdep 2 _ 68 (by kernel_rfl) rfl rfl
        obtain rfl := (f2.2.2.1 rfl).symm
        rw [if_pos (by rfl)]
        go_simp
        refine (refRuText_any r S _ _ _ _ _ _ _ (fun k hk => Nat.lt_of_lt_of_le (hS k hk) (Below.step B4.out hg).size) (RepRu.on (fun _ h => h) (fun k hk => (Below.step B4.out hg).block k (hS k hk)) HRR.out)).mono ?_
        rw [HTB.out]
        rintro e w2 ⟨rfl, hb⟩
        exact hK.out _ _ (Below.step hg hb) ⟨nn,nn,nn, fun _ => rfl, nn⟩ (fun _ _ h => h)
       case s4 =>
        intro a w' hoff hg hdep K hK
        obtain ⟨v1, e1, f1⟩ := hdep 1 _ 67 (by kernel_rfl) rfl rfl
        obtain rfl := (f1.2.1 rfl).symm
        obtain ⟨v3, e3, f3⟩ := hdep 3 _ 69 (by kernel_rfl) rfl rfl
        obtain rfl := (f3.2.2.2.1 rfl).symm
        rw [if_pos (by rfl)]
        go_simp
        exact hK.out _ _ hg ⟨nn,nn,nn,nn, fun _ => rfl⟩ (fun _ _ h => h)
       case fin =>
        intro a w5 hoff hg hf
        obtain ⟨v0, e0, f0⟩ := hf 0 _ 66 rfl rfl
        obtain rfl := (f0.1 rfl).symm
        obtain ⟨v1, e1, f1⟩ := hf 1 _ 67 rfl rfl
        obtain rfl := (f1.2.1 rfl).symm
        obtain ⟨v2, e2, f2⟩ := hf 2 _ 68 rfl rfl
        obtain rfl := (f2.2.2.1 rfl).symm
        obtain ⟨v3, e3, f3⟩ := hf 3 _ 69 rfl rfl
        obtain rfl := (f3.2.2.2.1 rfl).symm
        obtain ⟨v4, e4, f4⟩ := hf 4 _ 70 rfl rfl
        obtain rfl := (f4.2.2.2.2 rfl).symm
        rw [hoff.sets [(66, .agg #[.string r.label, .string r.head, .slice fa r.args.length fc, .string r.agg, .int .i64 r.at', .slice ga r.body.length gc]), (67, .string TB), (68, .agg #[.string r.label, .string r.head, .slice fa r.args.length fc, .string r.agg, .int .i64 r.at', .slice ga r.body.length gc]), (69, .string TB), (70, .bool false)] (by kernel_rfl) (by intro p hp; simp only [List.mem_cons, List.not_mem_nil, or_false] at hp; rcases hp with rfl | rfl | rfl | rfl | rfl <;> assumption)]
        clear hoff hf e0 f0 e1 f1 e2 f2 e3 f3 e4 f4
        simp only [List.foldl_cons, List.foldl_nil, List.setIfInBounds_toArray, List.set_cons_zero, List.set_cons_succ]
        have X5 := Lib.hid (X4.out.on hg); have B5 := Lib.hid (Below.step B4.out hg)
        have HB2 := Lib.hid (Below.trans HB1.out (Below.mono hg HB1.out.size))
        clear hg
        obtain ⟨p0, p1, p2, p3, p4, p5⟩ := X5.out.cells
        go_wp2_with fail
        clear p0 p1 p2 p3 p4 p5
        have HSZ := Lib.hid (fun k (hk : S k) => Nat.lt_of_lt_of_le (hS k hk) B5.out.size)
        go_loopw [7] (fun i wr => ∃ k : Nat, k ≤ r.body.length ∧ k ≤ 9 ∧ i = .int .i64 k ∧ Below w5.heap.size w5 wr) (fun i _ => r.body.length - (intOf i).toNat)
        case atStart => exact ⟨0, Nat.zero_le _, Nat.zero_le _, rfl, Below.refl _ _⟩
        case round =>
         obtain ⟨k, hk, hkm, rfl, hbel⟩ := hrel
         have HBEL := Lib.hid hbel; have HBL := Lib.hid (Below.step B5.out hbel)
         have XR := Lib.hid (X5.out.on hbel)
         obtain ⟨p0, p1, p2, p3, p4, p5⟩ := XR.out.cells
         by_cases hl : k < r.body.length
         ·by_cases h64 : k < 9
          ·have hA := (RepLis.on (fun _ h => h) (fun j hj => HBL.out.block j (hS j hj)) HRL.out : RepLis S wr r.body (.slice ga r.body.length gc))
           obtain ⟨-, hcap2, lb, lo, fa2, fc2, hga2, hSb, g0, g1, g2, g⟩ := RepLis.at hA k hl
           have HGA2 := Lib.hid hga2
           have HLB : Hid (lb < wr.heap.size) := Nat.lt_of_lt_of_le (HSZ.out lb hSb) hbel.size
           have Q0 := Lib.hid g0; have Q1 := Lib.hid g1; have Q2 := Lib.hid g2
           have G := Lib.hid g
           have HK1 : Hid ((0 : Int) ≤ (k : Int)) := Int.natCast_nonneg k
           have HK2 : Hid ((k : Int) < (r.body.length : Int)) := by show _ < _; omega
           clear hA g hga2 hbel hSb g0 g1 g2
           generalize r.body[k] = y at *
           obtain ⟨TB, hTB⟩ : ∃ t : ByteArray, (⟨(told (liB y) (showLi y)).toArray⟩ : ByteArray) = t := ⟨_, rfl⟩
           have HTB := Lib.hid hTB
           clear hTB
           go_wp2_with fail
           clear p0 p1 p2 p3 p4 p5
           refine wp_region_factsG (by rfl) 119 (by rfl) (by kernel_rfl) (fun _ iz vz => (iz = 0 → vz = .pointer (some ⟨bR, 5, none⟩)) ∧ (iz = 1 → vz = .slice (some ⟨lb, lo, none⟩) r.body.length gc) ∧ (iz = 2 → vz = .int .i64 (k : Int)) ∧ (iz = 3 → vz = .pointer (some ⟨lb, lo + k * 3, none⟩)) ∧ (iz = 4 → vz = .agg #[.int .i64 y.kind, .string y.name, .slice fa2 y.args.length fc2]) ∧ (iz = 5 → vz = .string TB) ∧ (iz = 6 → vz = .pointer (some ⟨bR, 5, none⟩)) ∧ (iz = 7 → vz = .slice (some ⟨lb, lo, none⟩) r.body.length gc) ∧ (iz = 8 → vz = .int .i64 (k : Int)) ∧ (iz = 9 → vz = .pointer (some ⟨lb, lo + k * 3, none⟩)) ∧ (iz = 10 → vz = .agg #[.int .i64 y.kind, .string y.name, .slice fa2 y.args.length fc2]) ∧ (iz = 11 → vz = .string TB) ∧ (iz = 12 → vz = .bool false)) (fun w' => Below wr.heap.size wr w') (Below.drew (Below.refl _ _)) ⟨?s0, ?s1, ?s2, ?s3, ?s4, ?s5, ?s6, ?s7, ?s8, ?s9, ?s10, ?s11, ?s12, trivial⟩ ?fin
           case s0 =>
            intro a w' hoff hg hdep K hK
            have h6 := off_at hoff 6 (v := .pointer (some ⟨bR, 0, none⟩)) (by kernel_rfl) rfl
            rw [if_pos (by rfl)]
            go_simp
            exact hK.out _ _ hg ⟨fun _ => rfl, nn,nn,nn,nn,nn,nn,nn,nn,nn,nn,nn,nn⟩ (fun _ _ h => h)
           case s1 =>
            intro a w' hoff hg hdep K hK
            obtain ⟨v0, e0, f0⟩ := hdep 0 _ 82 (by kernel_rfl) rfl rfl
            obtain rfl := (f0.1 rfl).symm
            rw [if_pos (by rfl)]
            obtain ⟨p0, p1, p2, p3, p4, p5⟩ := (XR.out.on hg).cells; rw [HGA2.out] at p5; have q0 := (hg.cell (p := ⟨lb, lo + k * 3, none⟩) HLB.out).trans Q0.out; have q1 := (hg.cell (p := ⟨lb, lo + k * 3 + 1, none⟩) HLB.out).trans Q1.out; have q2 := (hg.cell (p := ⟨lb, lo + k * 3 + 2, none⟩) HLB.out).trans Q2.out
            go_simp
            exact hK.out _ _ hg ⟨nn, fun _ => rfl, nn,nn,nn,nn,nn,nn,nn,nn,nn,nn,nn⟩ (fun _ _ h => h)
           case s2 =>
            intro a w' hoff hg hdep K hK
            have h7 := off_at hoff 7 (v := .int .i64 (k : Int)) (by kernel_rfl) rfl
            rw [if_pos (by rfl)]
            go_simp
            exact hK.out _ _ hg ⟨nn,nn, fun _ => rfl, nn,nn,nn,nn,nn,nn,nn,nn,nn,nn⟩ (fun _ _ h => h)
           case s3 =>
            intro a w' hoff hg hdep K hK
            obtain ⟨v1, e1, f1⟩ := hdep 1 _ 83 (by kernel_rfl) rfl rfl
            obtain rfl := (f1.2.1 rfl).symm
            obtain ⟨v2, e2, f2⟩ := hdep 2 _ 84 (by kernel_rfl) rfl rfl
            obtain rfl := (f2.2.2.1 rfl).symm
            rw [if_pos (by rfl)]
            have hk1 := HK1.out; have hk2 := HK2.out
            go_simp
            exact hK.out _ _ hg ⟨nn,nn,nn, fun _ => rfl, nn,nn,nn,nn,nn,nn,nn,nn,nn⟩ (fun _ _ h => h)
           case s4 =>
            intro a w' hoff hg hdep K hK
            obtain ⟨v3, e3, f3⟩ := hdep 3 _ 85 (by kernel_rfl) rfl rfl
            obtain rfl := (f3.2.2.2.1 rfl).symm
            rw [if_pos (by rfl)]
            obtain ⟨p0, p1, p2, p3, p4, p5⟩ := (XR.out.on hg).cells; rw [HGA2.out] at p5; have q0 := (hg.cell (p := ⟨lb, lo + k * 3, none⟩) HLB.out).trans Q0.out; have q1 := (hg.cell (p := ⟨lb, lo + k * 3 + 1, none⟩) HLB.out).trans Q1.out; have q2 := (hg.cell (p := ⟨lb, lo + k * 3 + 2, none⟩) HLB.out).trans Q2.out
            go_simp
            exact hK.out _ _ hg ⟨nn,nn,nn,nn, fun _ => rfl, nn,nn,nn,nn,nn,nn,nn,nn⟩ (fun _ _ h => h)
           case s5 =>
            intro a w' hoff hg hdep K hK
            obtain ⟨v4, e4, f4⟩ := hdep 4 _ 86 (by kernel_rfl) rfl rfl
            obtain rfl := (f4.2.2.2.2.1 rfl).symm
            rw [if_pos (by rfl)]
            go_simp
            refine (prLi_any y S _ _ _ _ (fun k hk => Nat.lt_of_lt_of_le (hS k hk) (Below.step HBL.out hg).size) (by have := HG.out; have := (Below.step HBL.out hg).size; omega) (HT.out.below HG.out (Below.step HBL.out hg)) (RepLi.on (fun _ h => h) (fun j hj => hg.block j (Nat.lt_of_lt_of_le (HSZ.out j hj) HBEL.out.size)) G.out) (fun h => showLi_fits h)).mono ?_
            rw [HTB.out]
            rintro e w2 ⟨rfl, hb⟩
            exact hK.out _ _ (Below.step hg hb) ⟨nn,nn,nn,nn,nn, fun _ => rfl, nn,nn,nn,nn,nn,nn,nn⟩ (fun _ _ h => h)
           case s6 =>
            intro a w' hoff hg hdep K hK
            have h6 := off_at hoff 6 (v := .pointer (some ⟨bR, 0, none⟩)) (by kernel_rfl) rfl
            rw [if_pos (by rfl)]
            go_simp
            exact hK.out _ _ hg ⟨nn,nn,nn,nn,nn,nn, fun _ => rfl, nn,nn,nn,nn,nn,nn⟩ (fun _ _ h => h)
           case s7 =>
            intro a w' hoff hg hdep K hK
            obtain ⟨v6, e6, f6⟩ := hdep 6 _ 88 (by kernel_rfl) rfl rfl
            obtain rfl := (f6.2.2.2.2.2.2.1 rfl).symm
            rw [if_pos (by rfl)]
            obtain ⟨p0, p1, p2, p3, p4, p5⟩ := (XR.out.on hg).cells; rw [HGA2.out] at p5; have q0 := (hg.cell (p := ⟨lb, lo + k * 3, none⟩) HLB.out).trans Q0.out; have q1 := (hg.cell (p := ⟨lb, lo + k * 3 + 1, none⟩) HLB.out).trans Q1.out; have q2 := (hg.cell (p := ⟨lb, lo + k * 3 + 2, none⟩) HLB.out).trans Q2.out
            go_simp
            exact hK.out _ _ hg ⟨nn,nn,nn,nn,nn,nn,nn, fun _ => rfl, nn,nn,nn,nn,nn⟩ (fun _ _ h => h)
           case s8 =>
            intro a w' hoff hg hdep K hK
            have h7 := off_at hoff 7 (v := .int .i64 (k : Int)) (by kernel_rfl) rfl
            rw [if_pos (by rfl)]
            go_simp
            exact hK.out _ _ hg ⟨nn,nn,nn,nn,nn,nn,nn,nn, fun _ => rfl, nn,nn,nn,nn⟩ (fun _ _ h => h)
           case s9 =>
            intro a w' hoff hg hdep K hK
            obtain ⟨v7, e7, f7⟩ := hdep 7 _ 89 (by kernel_rfl) rfl rfl
            obtain rfl := (f7.2.2.2.2.2.2.2.1 rfl).symm
            obtain ⟨v8, e8, f8⟩ := hdep 8 _ 90 (by kernel_rfl) rfl rfl
            obtain rfl := (f8.2.2.2.2.2.2.2.2.1 rfl).symm
            rw [if_pos (by rfl)]
            have hk1 := HK1.out; have hk2 := HK2.out
            go_simp
            exact hK.out _ _ hg ⟨nn,nn,nn,nn,nn,nn,nn,nn,nn, fun _ => rfl, nn,nn,nn⟩ (fun _ _ h => h)
           case s10 =>
            intro a w' hoff hg hdep K hK
            obtain ⟨v9, e9, f9⟩ := hdep 9 _ 91 (by kernel_rfl) rfl rfl
            obtain rfl := (f9.2.2.2.2.2.2.2.2.2.1 rfl).symm
            rw [if_pos (by rfl)]
            obtain ⟨p0, p1, p2, p3, p4, p5⟩ := (XR.out.on hg).cells; rw [HGA2.out] at p5; have q0 := (hg.cell (p := ⟨lb, lo + k * 3, none⟩) HLB.out).trans Q0.out; have q1 := (hg.cell (p := ⟨lb, lo + k * 3 + 1, none⟩) HLB.out).trans Q1.out; have q2 := (hg.cell (p := ⟨lb, lo + k * 3 + 2, none⟩) HLB.out).trans Q2.out
            go_simp
            exact hK.out _ _ hg ⟨nn,nn,nn,nn,nn,nn,nn,nn,nn,nn, fun _ => rfl, nn,nn⟩ (fun _ _ h => h)
           case s11 =>
            intro a w' hoff hg hdep K hK
            obtain ⟨v10, e10, f10⟩ := hdep 10 _ 92 (by kernel_rfl) rfl rfl
            obtain rfl := (f10.2.2.2.2.2.2.2.2.2.2.1 rfl).symm
            rw [if_pos (by rfl)]
            go_simp
            refine (refLiText_any y S _ _ _ _ (fun k hk => Nat.lt_of_lt_of_le (hS k hk) (Below.step HBL.out hg).size) (RepLi.on (fun _ h => h) (fun j hj => hg.block j (Nat.lt_of_lt_of_le (HSZ.out j hj) HBEL.out.size)) G.out) (fun h => showLi_fits h)).mono ?_
            rw [HTB.out]
            rintro e w2 ⟨rfl, hb⟩
            exact hK.out _ _ (Below.step hg hb) ⟨nn,nn,nn,nn,nn,nn,nn,nn,nn,nn,nn, fun _ => rfl, nn⟩ (fun _ _ h => h)
           case s12 =>
            intro a w' hoff hg hdep K hK
            obtain ⟨v5, e5, f5⟩ := hdep 5 _ 87 (by kernel_rfl) rfl rfl
            obtain rfl := (f5.2.2.2.2.2.1 rfl).symm
            obtain ⟨v11, e11, f11⟩ := hdep 11 _ 93 (by kernel_rfl) rfl rfl
            obtain rfl := (f11.2.2.2.2.2.2.2.2.2.2.2.1 rfl).symm
            rw [if_pos (by rfl)]
            go_simp
            exact hK.out _ _ hg ⟨nn,nn,nn,nn,nn,nn,nn,nn,nn,nn,nn,nn, fun _ => rfl⟩ (fun _ _ h => h)
           case fin =>
            intro a w9 hoff hg hf
            obtain ⟨v0, e0, f0⟩ := hf 0 _ 82 rfl rfl
            obtain rfl := (f0.1 rfl).symm
            obtain ⟨v1, e1, f1⟩ := hf 1 _ 83 rfl rfl
            obtain rfl := (f1.2.1 rfl).symm
            obtain ⟨v2, e2, f2⟩ := hf 2 _ 84 rfl rfl
            obtain rfl := (f2.2.2.1 rfl).symm
            obtain ⟨v3, e3, f3⟩ := hf 3 _ 85 rfl rfl
            obtain rfl := (f3.2.2.2.1 rfl).symm
            obtain ⟨v4, e4, f4⟩ := hf 4 _ 86 rfl rfl
            obtain rfl := (f4.2.2.2.2.1 rfl).symm
            obtain ⟨v5, e5, f5⟩ := hf 5 _ 87 rfl rfl
            obtain rfl := (f5.2.2.2.2.2.1 rfl).symm
            obtain ⟨v6, e6, f6⟩ := hf 6 _ 88 rfl rfl
            obtain rfl := (f6.2.2.2.2.2.2.1 rfl).symm
            obtain ⟨v7, e7, f7⟩ := hf 7 _ 89 rfl rfl
            obtain rfl := (f7.2.2.2.2.2.2.2.1 rfl).symm
            obtain ⟨v8, e8, f8⟩ := hf 8 _ 90 rfl rfl
            obtain rfl := (f8.2.2.2.2.2.2.2.2.1 rfl).symm
            obtain ⟨v9, e9, f9⟩ := hf 9 _ 91 rfl rfl
            obtain rfl := (f9.2.2.2.2.2.2.2.2.2.1 rfl).symm
            obtain ⟨v10, e10, f10⟩ := hf 10 _ 92 rfl rfl
            obtain rfl := (f10.2.2.2.2.2.2.2.2.2.2.1 rfl).symm
            obtain ⟨v11, e11, f11⟩ := hf 11 _ 93 rfl rfl
            obtain rfl := (f11.2.2.2.2.2.2.2.2.2.2.2.1 rfl).symm
            obtain ⟨v12, e12, f12⟩ := hf 12 _ 94 rfl rfl
            obtain rfl := (f12.2.2.2.2.2.2.2.2.2.2.2.2 rfl).symm
            rw [hoff.sets [(82, .pointer (some ⟨bR, 5, none⟩)), (83, .slice (some ⟨lb, lo, none⟩) r.body.length gc), (84, .int .i64 (k : Int)), (85, .pointer (some ⟨lb, lo + k * 3, none⟩)), (86, .agg #[.int .i64 y.kind, .string y.name, .slice fa2 y.args.length fc2]), (87, .string TB), (88, .pointer (some ⟨bR, 5, none⟩)), (89, .slice (some ⟨lb, lo, none⟩) r.body.length gc), (90, .int .i64 (k : Int)), (91, .pointer (some ⟨lb, lo + k * 3, none⟩)), (92, .agg #[.int .i64 y.kind, .string y.name, .slice fa2 y.args.length fc2]), (93, .string TB), (94, .bool false)] (by kernel_rfl) (by intro p hp; simp only [List.mem_cons, List.not_mem_nil, or_false] at hp; rcases hp with rfl | rfl | rfl | rfl | rfl | rfl | rfl | rfl | rfl | rfl | rfl | rfl | rfl <;> assumption)]
            clear hoff hf e0 f0 e1 f1 e2 f2 e3 f3 e4 f4 e5 f5 e6 f6 e7 f7 e8 f8 e9 f9 e10 f10 e11 f11 e12 f12
            simp only [List.foldl_cons, List.foldl_nil, List.setIfInBounds_toArray, List.set_cons_zero, List.set_cons_succ]
            go_wp2_with fail
            go_roundw
            case rel => exact ⟨k + 1, by omega, by omega, by go_num, Below.step HBEL.out hg⟩
            case measure => simp [intOf]; omega
          ·obtain rfl : k = 9 := by omega
           have B6 := Lib.hid HBL.out; have X6 := XR
           have HB3 := Lib.hid (Below.trans HB2.out (Below.mono hbel HB2.out.size))
           clear hbel HBEL HBL HSZ XR
           generalize wr = w6 at *
           go_wp2_with fail
           clear p0 p1 p2 p3 p4 p5
           have HSZ := Lib.hid (fun k (hk : S k) => Nat.lt_of_lt_of_le (hS k hk) B6.out.size)
           go_loopw [8] (fun i wr => ∃ k : Nat, k ≤ r.args.length ∧ k ≤ 9 ∧ i = .int .i64 k ∧ Below w6.heap.size w6 wr) (fun i _ => r.args.length - (intOf i).toNat)
           case atStart => exact ⟨0, Nat.zero_le _, Nat.zero_le _, rfl, Below.refl _ _⟩
           case round =>
            obtain ⟨k, hk, hkm, rfl, hbel⟩ := hrel
            have HBEL := Lib.hid hbel; have HBL := Lib.hid (Below.step B6.out hbel)
            have XR := Lib.hid (X6.out.on hbel)
            obtain ⟨p0, p1, p2, p3, p4, p5⟩ := XR.out.cells
            by_cases hl : k < r.args.length
            ·by_cases h64 : k < 9
             ·have hA := (RepMs.on (fun _ h => h) (fun j hj => HBL.out.block j (hS j hj)) HRM.out : RepMs S wr r.args (.slice fa r.args.length fc))
              obtain ⟨-, hcap2, lb, lo, fa2, fc2, ga2, gc2, hga2, hSb, g0, g1, g2, g3, g4, g5, g6, g⟩ := RepMs.at hA k hl
              have HGA2 := Lib.hid hga2
              have HLB : Hid (lb < wr.heap.size) := Nat.lt_of_lt_of_le (HSZ.out lb hSb) hbel.size
              have Q0 := Lib.hid g0; have Q1 := Lib.hid g1; have Q2 := Lib.hid g2; have Q3 := Lib.hid g3; have Q4 := Lib.hid g4; have Q5 := Lib.hid g5; have Q6 := Lib.hid g6
              have G := Lib.hid g
              have HK1 : Hid ((0 : Int) ≤ (k : Int)) := Int.natCast_nonneg k
              have HK2 : Hid ((k : Int) < (r.args.length : Int)) := by show _ < _; omega
              clear hA g hga2 hbel hSb g0 g1 g2 g3 g4 g5 g6
              generalize r.args[k] = y at *
              obtain ⟨TB, hTB⟩ : ∃ t : ByteArray, (⟨(told (rightM 8 y) (showM y)).toArray⟩ : ByteArray) = t := ⟨_, rfl⟩
              have HTB := Lib.hid hTB
              clear hTB
              go_wp2_with fail
              clear p0 p1 p2 p3 p4 p5
              refine wp_region_factsG (by rfl) 119 (by rfl) (by kernel_rfl) (fun _ iz vz => (iz = 0 → vz = .pointer (some ⟨bR, 2, none⟩)) ∧ (iz = 1 → vz = .slice (some ⟨lb, lo, none⟩) r.args.length fc) ∧ (iz = 2 → vz = .int .i64 (k : Int)) ∧ (iz = 3 → vz = .pointer (some ⟨lb, lo + k * 7, none⟩)) ∧ (iz = 4 → vz = .agg #[.int .i64 y.kind, .string y.name, .int .i64 y.val.kind, .int .i64 y.val.num, .string y.val.text, .slice fa2 y.val.list.length fc2, .slice ga2 y.args.length gc2]) ∧ (iz = 5 → vz = .string TB) ∧ (iz = 6 → vz = .pointer (some ⟨bR, 2, none⟩)) ∧ (iz = 7 → vz = .slice (some ⟨lb, lo, none⟩) r.args.length fc) ∧ (iz = 8 → vz = .int .i64 (k : Int)) ∧ (iz = 9 → vz = .pointer (some ⟨lb, lo + k * 7, none⟩)) ∧ (iz = 10 → vz = .agg #[.int .i64 y.kind, .string y.name, .int .i64 y.val.kind, .int .i64 y.val.num, .string y.val.text, .slice fa2 y.val.list.length fc2, .slice ga2 y.args.length gc2]) ∧ (iz = 11 → vz = .string TB) ∧ (iz = 12 → vz = .bool false)) (fun w' => Below wr.heap.size wr w') (Below.drew (Below.refl _ _)) ⟨?s0, ?s1, ?s2, ?s3, ?s4, ?s5, ?s6, ?s7, ?s8, ?s9, ?s10, ?s11, ?s12, trivial⟩ ?fin
              case s0 =>
               intro a w' hoff hg hdep K hK
               have h6 := off_at hoff 6 (v := .pointer (some ⟨bR, 0, none⟩)) (by kernel_rfl) rfl
               rw [if_pos (by rfl)]
               go_simp
               exact hK.out _ _ hg ⟨fun _ => rfl, nn,nn,nn,nn,nn,nn,nn,nn,nn,nn,nn,nn⟩ (fun _ _ h => h)
              case s1 =>
               intro a w' hoff hg hdep K hK
               obtain ⟨v0, e0, f0⟩ := hdep 0 _ 106 (by kernel_rfl) rfl rfl
               obtain rfl := (f0.1 rfl).symm
               rw [if_pos (by rfl)]
               obtain ⟨p0, p1, p2, p3, p4, p5⟩ := (XR.out.on hg).cells; rw [HGA2.out] at p2; have q0 := (hg.cell (p := ⟨lb, lo + k * 7, none⟩) HLB.out).trans Q0.out; have q1 := (hg.cell (p := ⟨lb, lo + k * 7 + 1, none⟩) HLB.out).trans Q1.out; have q2 := (hg.cell (p := ⟨lb, lo + k * 7 + 2, none⟩) HLB.out).trans Q2.out; have q3 := (hg.cell (p := ⟨lb, lo + k * 7 + 3, none⟩) HLB.out).trans Q3.out; have q4 := (hg.cell (p := ⟨lb, lo + k * 7 + 4, none⟩) HLB.out).trans Q4.out; have q5 := (hg.cell (p := ⟨lb, lo + k * 7 + 5, none⟩) HLB.out).trans Q5.out; have q6 := (hg.cell (p := ⟨lb, lo + k * 7 + 6, none⟩) HLB.out).trans Q6.out
               go_simp
               exact hK.out _ _ hg ⟨nn, fun _ => rfl, nn,nn,nn,nn,nn,nn,nn,nn,nn,nn,nn⟩ (fun _ _ h => h)
              case s2 =>
               intro a w' hoff hg hdep K hK
               have h8 := off_at hoff 8 (v := .int .i64 (k : Int)) (by kernel_rfl) rfl
               rw [if_pos (by rfl)]
               go_simp
               exact hK.out _ _ hg ⟨nn,nn, fun _ => rfl, nn,nn,nn,nn,nn,nn,nn,nn,nn,nn⟩ (fun _ _ h => h)
              case s3 =>
               intro a w' hoff hg hdep K hK
               obtain ⟨v1, e1, f1⟩ := hdep 1 _ 107 (by kernel_rfl) rfl rfl
               obtain rfl := (f1.2.1 rfl).symm
               obtain ⟨v2, e2, f2⟩ := hdep 2 _ 108 (by kernel_rfl) rfl rfl
               obtain rfl := (f2.2.2.1 rfl).symm
               rw [if_pos (by rfl)]
               have hk1 := HK1.out; have hk2 := HK2.out
               go_simp
               exact hK.out _ _ hg ⟨nn,nn,nn, fun _ => rfl, nn,nn,nn,nn,nn,nn,nn,nn,nn⟩ (fun _ _ h => h)
              case s4 =>
               intro a w' hoff hg hdep K hK
               obtain ⟨v3, e3, f3⟩ := hdep 3 _ 109 (by kernel_rfl) rfl rfl
               obtain rfl := (f3.2.2.2.1 rfl).symm
               rw [if_pos (by rfl)]
               obtain ⟨p0, p1, p2, p3, p4, p5⟩ := (XR.out.on hg).cells; rw [HGA2.out] at p2; have q0 := (hg.cell (p := ⟨lb, lo + k * 7, none⟩) HLB.out).trans Q0.out; have q1 := (hg.cell (p := ⟨lb, lo + k * 7 + 1, none⟩) HLB.out).trans Q1.out; have q2 := (hg.cell (p := ⟨lb, lo + k * 7 + 2, none⟩) HLB.out).trans Q2.out; have q3 := (hg.cell (p := ⟨lb, lo + k * 7 + 3, none⟩) HLB.out).trans Q3.out; have q4 := (hg.cell (p := ⟨lb, lo + k * 7 + 4, none⟩) HLB.out).trans Q4.out; have q5 := (hg.cell (p := ⟨lb, lo + k * 7 + 5, none⟩) HLB.out).trans Q5.out; have q6 := (hg.cell (p := ⟨lb, lo + k * 7 + 6, none⟩) HLB.out).trans Q6.out
               go_simp
               exact hK.out _ _ hg ⟨nn,nn,nn,nn, fun _ => rfl, nn,nn,nn,nn,nn,nn,nn,nn⟩ (fun _ _ h => h)
              case s5 =>
               intro a w' hoff hg hdep K hK
               obtain ⟨v4, e4, f4⟩ := hdep 4 _ 110 (by kernel_rfl) rfl rfl
               obtain rfl := (f4.2.2.2.2.1 rfl).symm
               rw [if_pos (by rfl)]
               go_simp
               refine (prTm_any y S _ _ _ _ _ _ _ _ (fun k hk => Nat.lt_of_lt_of_le (hS k hk) (Below.step HBL.out hg).size) (by have := HG.out; have := (Below.step HBL.out hg).size; omega) (HT.out.below HG.out (Below.step HBL.out hg)) (RepM.on (fun _ h => h) (fun j hj => hg.block j (Nat.lt_of_lt_of_le (HSZ.out j hj) HBEL.out.size)) y G.out) (fun h => showM_fits h)).mono ?_
               rw [HTB.out]
               rintro e w2 ⟨rfl, hb⟩
               exact hK.out _ _ (Below.step hg hb) ⟨nn,nn,nn,nn,nn, fun _ => rfl, nn,nn,nn,nn,nn,nn,nn⟩ (fun _ _ h => h)
              case s6 =>
               intro a w' hoff hg hdep K hK
               have h6 := off_at hoff 6 (v := .pointer (some ⟨bR, 0, none⟩)) (by kernel_rfl) rfl
               rw [if_pos (by rfl)]
               go_simp
               exact hK.out _ _ hg ⟨nn,nn,nn,nn,nn,nn, fun _ => rfl, nn,nn,nn,nn,nn,nn⟩ (fun _ _ h => h)
              case s7 =>
               intro a w' hoff hg hdep K hK
               obtain ⟨v6, e6, f6⟩ := hdep 6 _ 112 (by kernel_rfl) rfl rfl
               obtain rfl := (f6.2.2.2.2.2.2.1 rfl).symm
               rw [if_pos (by rfl)]
               obtain ⟨p0, p1, p2, p3, p4, p5⟩ := (XR.out.on hg).cells; rw [HGA2.out] at p2; have q0 := (hg.cell (p := ⟨lb, lo + k * 7, none⟩) HLB.out).trans Q0.out; have q1 := (hg.cell (p := ⟨lb, lo + k * 7 + 1, none⟩) HLB.out).trans Q1.out; have q2 := (hg.cell (p := ⟨lb, lo + k * 7 + 2, none⟩) HLB.out).trans Q2.out; have q3 := (hg.cell (p := ⟨lb, lo + k * 7 + 3, none⟩) HLB.out).trans Q3.out; have q4 := (hg.cell (p := ⟨lb, lo + k * 7 + 4, none⟩) HLB.out).trans Q4.out; have q5 := (hg.cell (p := ⟨lb, lo + k * 7 + 5, none⟩) HLB.out).trans Q5.out; have q6 := (hg.cell (p := ⟨lb, lo + k * 7 + 6, none⟩) HLB.out).trans Q6.out
               go_simp
               exact hK.out _ _ hg ⟨nn,nn,nn,nn,nn,nn,nn, fun _ => rfl, nn,nn,nn,nn,nn⟩ (fun _ _ h => h)
              case s8 =>
               intro a w' hoff hg hdep K hK
               have h8 := off_at hoff 8 (v := .int .i64 (k : Int)) (by kernel_rfl) rfl
               rw [if_pos (by rfl)]
               go_simp
               exact hK.out _ _ hg ⟨nn,nn,nn,nn,nn,nn,nn,nn, fun _ => rfl, nn,nn,nn,nn⟩ (fun _ _ h => h)
              case s9 =>
               intro a w' hoff hg hdep K hK
               obtain ⟨v7, e7, f7⟩ := hdep 7 _ 113 (by kernel_rfl) rfl rfl
               obtain rfl := (f7.2.2.2.2.2.2.2.1 rfl).symm
               obtain ⟨v8, e8, f8⟩ := hdep 8 _ 114 (by kernel_rfl) rfl rfl
               obtain rfl := (f8.2.2.2.2.2.2.2.2.1 rfl).symm
               rw [if_pos (by rfl)]
               have hk1 := HK1.out; have hk2 := HK2.out
               go_simp
               exact hK.out _ _ hg ⟨nn,nn,nn,nn,nn,nn,nn,nn,nn, fun _ => rfl, nn,nn,nn⟩ (fun _ _ h => h)
              case s10 =>
               intro a w' hoff hg hdep K hK
               obtain ⟨v9, e9, f9⟩ := hdep 9 _ 115 (by kernel_rfl) rfl rfl
               obtain rfl := (f9.2.2.2.2.2.2.2.2.2.1 rfl).symm
               rw [if_pos (by rfl)]
               obtain ⟨p0, p1, p2, p3, p4, p5⟩ := (XR.out.on hg).cells; rw [HGA2.out] at p2; have q0 := (hg.cell (p := ⟨lb, lo + k * 7, none⟩) HLB.out).trans Q0.out; have q1 := (hg.cell (p := ⟨lb, lo + k * 7 + 1, none⟩) HLB.out).trans Q1.out; have q2 := (hg.cell (p := ⟨lb, lo + k * 7 + 2, none⟩) HLB.out).trans Q2.out; have q3 := (hg.cell (p := ⟨lb, lo + k * 7 + 3, none⟩) HLB.out).trans Q3.out; have q4 := (hg.cell (p := ⟨lb, lo + k * 7 + 4, none⟩) HLB.out).trans Q4.out; have q5 := (hg.cell (p := ⟨lb, lo + k * 7 + 5, none⟩) HLB.out).trans Q5.out; have q6 := (hg.cell (p := ⟨lb, lo + k * 7 + 6, none⟩) HLB.out).trans Q6.out
               go_simp
               exact hK.out _ _ hg ⟨nn,nn,nn,nn,nn,nn,nn,nn,nn,nn, fun _ => rfl, nn,nn⟩ (fun _ _ h => h)
              case s11 =>
               intro a w' hoff hg hdep K hK
               obtain ⟨v10, e10, f10⟩ := hdep 10 _ 116 (by kernel_rfl) rfl rfl
               obtain rfl := (f10.2.2.2.2.2.2.2.2.2.2.1 rfl).symm
               rw [if_pos (by rfl)]
               go_simp
               refine (refTmText_any y S _ _ _ _ _ _ _ _ (fun k hk => Nat.lt_of_lt_of_le (hS k hk) (Below.step HBL.out hg).size) (RepM.on (fun _ h => h) (fun j hj => hg.block j (Nat.lt_of_lt_of_le (HSZ.out j hj) HBEL.out.size)) y G.out) (fun h => showM_fits h)).mono ?_
               rw [HTB.out]
               rintro e w2 ⟨rfl, hb⟩
               exact hK.out _ _ (Below.step hg hb) ⟨nn,nn,nn,nn,nn,nn,nn,nn,nn,nn,nn, fun _ => rfl, nn⟩ (fun _ _ h => h)
              case s12 =>
               intro a w' hoff hg hdep K hK
               obtain ⟨v5, e5, f5⟩ := hdep 5 _ 111 (by kernel_rfl) rfl rfl
               obtain rfl := (f5.2.2.2.2.2.1 rfl).symm
               obtain ⟨v11, e11, f11⟩ := hdep 11 _ 117 (by kernel_rfl) rfl rfl
               obtain rfl := (f11.2.2.2.2.2.2.2.2.2.2.2.1 rfl).symm
               rw [if_pos (by rfl)]
               go_simp
               exact hK.out _ _ hg ⟨nn,nn,nn,nn,nn,nn,nn,nn,nn,nn,nn,nn, fun _ => rfl⟩ (fun _ _ h => h)
              case fin =>
               intro a w9 hoff hg hf
               obtain ⟨v0, e0, f0⟩ := hf 0 _ 106 rfl rfl
               obtain rfl := (f0.1 rfl).symm
               obtain ⟨v1, e1, f1⟩ := hf 1 _ 107 rfl rfl
               obtain rfl := (f1.2.1 rfl).symm
               obtain ⟨v2, e2, f2⟩ := hf 2 _ 108 rfl rfl
               obtain rfl := (f2.2.2.1 rfl).symm
               obtain ⟨v3, e3, f3⟩ := hf 3 _ 109 rfl rfl
               obtain rfl := (f3.2.2.2.1 rfl).symm
               obtain ⟨v4, e4, f4⟩ := hf 4 _ 110 rfl rfl
               obtain rfl := (f4.2.2.2.2.1 rfl).symm
               obtain ⟨v5, e5, f5⟩ := hf 5 _ 111 rfl rfl
               obtain rfl := (f5.2.2.2.2.2.1 rfl).symm
               obtain ⟨v6, e6, f6⟩ := hf 6 _ 112 rfl rfl
               obtain rfl := (f6.2.2.2.2.2.2.1 rfl).symm
               obtain ⟨v7, e7, f7⟩ := hf 7 _ 113 rfl rfl
               obtain rfl := (f7.2.2.2.2.2.2.2.1 rfl).symm
               obtain ⟨v8, e8, f8⟩ := hf 8 _ 114 rfl rfl
               obtain rfl := (f8.2.2.2.2.2.2.2.2.1 rfl).symm
               obtain ⟨v9, e9, f9⟩ := hf 9 _ 115 rfl rfl
               obtain rfl := (f9.2.2.2.2.2.2.2.2.2.1 rfl).symm
               obtain ⟨v10, e10, f10⟩ := hf 10 _ 116 rfl rfl
               obtain rfl := (f10.2.2.2.2.2.2.2.2.2.2.1 rfl).symm
               obtain ⟨v11, e11, f11⟩ := hf 11 _ 117 rfl rfl
               obtain rfl := (f11.2.2.2.2.2.2.2.2.2.2.2.1 rfl).symm
               obtain ⟨v12, e12, f12⟩ := hf 12 _ 118 rfl rfl
               obtain rfl := (f12.2.2.2.2.2.2.2.2.2.2.2.2 rfl).symm
               rw [hoff.sets [(106, .pointer (some ⟨bR, 2, none⟩)), (107, .slice (some ⟨lb, lo, none⟩) r.args.length fc), (108, .int .i64 (k : Int)), (109, .pointer (some ⟨lb, lo + k * 7, none⟩)), (110, .agg #[.int .i64 y.kind, .string y.name, .int .i64 y.val.kind, .int .i64 y.val.num, .string y.val.text, .slice fa2 y.val.list.length fc2, .slice ga2 y.args.length gc2]), (111, .string TB), (112, .pointer (some ⟨bR, 2, none⟩)), (113, .slice (some ⟨lb, lo, none⟩) r.args.length fc), (114, .int .i64 (k : Int)), (115, .pointer (some ⟨lb, lo + k * 7, none⟩)), (116, .agg #[.int .i64 y.kind, .string y.name, .int .i64 y.val.kind, .int .i64 y.val.num, .string y.val.text, .slice fa2 y.val.list.length fc2, .slice ga2 y.args.length gc2]), (117, .string TB), (118, .bool false)] (by kernel_rfl) (by intro p hp; simp only [List.mem_cons, List.not_mem_nil, or_false] at hp; rcases hp with rfl | rfl | rfl | rfl | rfl | rfl | rfl | rfl | rfl | rfl | rfl | rfl | rfl <;> assumption)]
               clear hoff hf e0 f0 e1 f1 e2 f2 e3 f3 e4 f4 e5 f5 e6 f6 e7 f7 e8 f8 e9 f9 e10 f10 e11 f11 e12 f12
               simp only [List.foldl_cons, List.foldl_nil, List.setIfInBounds_toArray, List.set_cons_zero, List.set_cons_succ]
               go_wp2_with fail
               go_roundw
               case rel => exact ⟨k + 1, by omega, by omega, by go_num, Below.step HBEL.out hg⟩
               case measure => simp [intOf]; omega
             ·obtain rfl : k = 9 := by omega
              have HB4 := Lib.hid (Below.trans HB3.out (Below.mono hbel HB3.out.size))
              clear hbel
              go_wp2_with fail
              go_roundw
              case rel => exact ⟨k2 + 1, by omega, by omega, by go_num, Below.trans HBEL2.out (Below.mono HB4.out HBEL2.out.size)⟩
              case measure => simp [intOf]; omega
            ·obtain rfl : k = r.args.length := by omega
             have HB4 := Lib.hid (Below.trans HB3.out (Below.mono hbel HB3.out.size))
             clear hbel
             go_wp2_with fail
             go_roundw
             case rel => exact ⟨k2 + 1, by omega, by omega, by go_num, Below.trans HBEL2.out (Below.mono HB4.out HBEL2.out.size)⟩
             case measure => simp [intOf]; omega
         ·obtain rfl : k = r.body.length := by omega
          have B6 := Lib.hid HBL.out; have X6 := XR
          have HB3 := Lib.hid (Below.trans HB2.out (Below.mono hbel HB2.out.size))
          clear hbel HBEL HBL HSZ XR
          generalize wr = w6 at *
          go_wp2_with fail
          clear p0 p1 p2 p3 p4 p5
          have HSZ := Lib.hid (fun k (hk : S k) => Nat.lt_of_lt_of_le (hS k hk) B6.out.size)
          go_loopw [8] (fun i wr => ∃ k : Nat, k ≤ r.args.length ∧ k ≤ 9 ∧ i = .int .i64 k ∧ Below w6.heap.size w6 wr) (fun i _ => r.args.length - (intOf i).toNat)
          case atStart => exact ⟨0, Nat.zero_le _, Nat.zero_le _, rfl, Below.refl _ _⟩
          case round =>
           obtain ⟨k, hk, hkm, rfl, hbel⟩ := hrel
           have HBEL := Lib.hid hbel; have HBL := Lib.hid (Below.step B6.out hbel)
           have XR := Lib.hid (X6.out.on hbel)
           obtain ⟨p0, p1, p2, p3, p4, p5⟩ := XR.out.cells
           by_cases hl : k < r.args.length
           ·by_cases h64 : k < 9
            ·have hA := (RepMs.on (fun _ h => h) (fun j hj => HBL.out.block j (hS j hj)) HRM.out : RepMs S wr r.args (.slice fa r.args.length fc))
             obtain ⟨-, hcap2, lb, lo, fa2, fc2, ga2, gc2, hga2, hSb, g0, g1, g2, g3, g4, g5, g6, g⟩ := RepMs.at hA k hl
             have HGA2 := Lib.hid hga2
             have HLB : Hid (lb < wr.heap.size) := Nat.lt_of_lt_of_le (HSZ.out lb hSb) hbel.size
             have Q0 := Lib.hid g0; have Q1 := Lib.hid g1; have Q2 := Lib.hid g2; have Q3 := Lib.hid g3; have Q4 := Lib.hid g4; have Q5 := Lib.hid g5; have Q6 := Lib.hid g6
             have G := Lib.hid g
             have HK1 : Hid ((0 : Int) ≤ (k : Int)) := Int.natCast_nonneg k
             have HK2 : Hid ((k : Int) < (r.args.length : Int)) := by show _ < _; omega
             clear hA g hga2 hbel hSb g0 g1 g2 g3 g4 g5 g6
             generalize r.args[k] = y at *
             obtain ⟨TB, hTB⟩ : ∃ t : ByteArray, (⟨(told (rightM 8 y) (showM y)).toArray⟩ : ByteArray) = t := ⟨_, rfl⟩
             have HTB := Lib.hid hTB
             clear hTB
             go_wp2_with fail
             clear p0 p1 p2 p3 p4 p5
             refine wp_region_factsG (by rfl) 119 (by rfl) (by kernel_rfl) (fun _ iz vz => (iz = 0 → vz = .pointer (some ⟨bR, 2, none⟩)) ∧ (iz = 1 → vz = .slice (some ⟨lb, lo, none⟩) r.args.length fc) ∧ (iz = 2 → vz = .int .i64 (k : Int)) ∧ (iz = 3 → vz = .pointer (some ⟨lb, lo + k * 7, none⟩)) ∧ (iz = 4 → vz = .agg #[.int .i64 y.kind, .string y.name, .int .i64 y.val.kind, .int .i64 y.val.num, .string y.val.text, .slice fa2 y.val.list.length fc2, .slice ga2 y.args.length gc2]) ∧ (iz = 5 → vz = .string TB) ∧ (iz = 6 → vz = .pointer (some ⟨bR, 2, none⟩)) ∧ (iz = 7 → vz = .slice (some ⟨lb, lo, none⟩) r.args.length fc) ∧ (iz = 8 → vz = .int .i64 (k : Int)) ∧ (iz = 9 → vz = .pointer (some ⟨lb, lo + k * 7, none⟩)) ∧ (iz = 10 → vz = .agg #[.int .i64 y.kind, .string y.name, .int .i64 y.val.kind, .int .i64 y.val.num, .string y.val.text, .slice fa2 y.val.list.length fc2, .slice ga2 y.args.length gc2]) ∧ (iz = 11 → vz = .string TB) ∧ (iz = 12 → vz = .bool false)) (fun w' => Below wr.heap.size wr w') (Below.drew (Below.refl _ _)) ⟨?s0, ?s1, ?s2, ?s3, ?s4, ?s5, ?s6, ?s7, ?s8, ?s9, ?s10, ?s11, ?s12, trivial⟩ ?fin
             case s0 =>
              intro a w' hoff hg hdep K hK
              have h6 := off_at hoff 6 (v := .pointer (some ⟨bR, 0, none⟩)) (by kernel_rfl) rfl
              rw [if_pos (by rfl)]
              go_simp
              exact hK.out _ _ hg ⟨fun _ => rfl, nn,nn,nn,nn,nn,nn,nn,nn,nn,nn,nn,nn⟩ (fun _ _ h => h)
             case s1 =>
              intro a w' hoff hg hdep K hK
              obtain ⟨v0, e0, f0⟩ := hdep 0 _ 106 (by kernel_rfl) rfl rfl
              obtain rfl := (f0.1 rfl).symm
              rw [if_pos (by rfl)]
              obtain ⟨p0, p1, p2, p3, p4, p5⟩ := (XR.out.on hg).cells; rw [HGA2.out] at p2; have q0 := (hg.cell (p := ⟨lb, lo + k * 7, none⟩) HLB.out).trans Q0.out; have q1 := (hg.cell (p := ⟨lb, lo + k * 7 + 1, none⟩) HLB.out).trans Q1.out; have q2 := (hg.cell (p := ⟨lb, lo + k * 7 + 2, none⟩) HLB.out).trans Q2.out; have q3 := (hg.cell (p := ⟨lb, lo + k * 7 + 3, none⟩) HLB.out).trans Q3.out; have q4 := (hg.cell (p := ⟨lb, lo + k * 7 + 4, none⟩) HLB.out).trans Q4.out; have q5 := (hg.cell (p := ⟨lb, lo + k * 7 + 5, none⟩) HLB.out).trans Q5.out; have q6 := (hg.cell (p := ⟨lb, lo + k * 7 + 6, none⟩) HLB.out).trans Q6.out
              go_simp
              exact hK.out _ _ hg ⟨nn, fun _ => rfl, nn,nn,nn,nn,nn,nn,nn,nn,nn,nn,nn⟩ (fun _ _ h => h)
             case s2 =>
              intro a w' hoff hg hdep K hK
              have h8 := off_at hoff 8 (v := .int .i64 (k : Int)) (by kernel_rfl) rfl
              rw [if_pos (by rfl)]
              go_simp
              exact hK.out _ _ hg ⟨nn,nn, fun _ => rfl, nn,nn,nn,nn,nn,nn,nn,nn,nn,nn⟩ (fun _ _ h => h)
             case s3 =>
              intro a w' hoff hg hdep K hK
              obtain ⟨v1, e1, f1⟩ := hdep 1 _ 107 (by kernel_rfl) rfl rfl
              obtain rfl := (f1.2.1 rfl).symm
              obtain ⟨v2, e2, f2⟩ := hdep 2 _ 108 (by kernel_rfl) rfl rfl
              obtain rfl := (f2.2.2.1 rfl).symm
              rw [if_pos (by rfl)]
              have hk1 := HK1.out; have hk2 := HK2.out
              go_simp
              exact hK.out _ _ hg ⟨nn,nn,nn, fun _ => rfl, nn,nn,nn,nn,nn,nn,nn,nn,nn⟩ (fun _ _ h => h)
             case s4 =>
              intro a w' hoff hg hdep K hK
              obtain ⟨v3, e3, f3⟩ := hdep 3 _ 109 (by kernel_rfl) rfl rfl
              obtain rfl := (f3.2.2.2.1 rfl).symm
              rw [if_pos (by rfl)]
              obtain ⟨p0, p1, p2, p3, p4, p5⟩ := (XR.out.on hg).cells; rw [HGA2.out] at p2; have q0 := (hg.cell (p := ⟨lb, lo + k * 7, none⟩) HLB.out).trans Q0.out; have q1 := (hg.cell (p := ⟨lb, lo + k * 7 + 1, none⟩) HLB.out).trans Q1.out; have q2 := (hg.cell (p := ⟨lb, lo + k * 7 + 2, none⟩) HLB.out).trans Q2.out; have q3 := (hg.cell (p := ⟨lb, lo + k * 7 + 3, none⟩) HLB.out).trans Q3.out; have q4 := (hg.cell (p := ⟨lb, lo + k * 7 + 4, none⟩) HLB.out).trans Q4.out; have q5 := (hg.cell (p := ⟨lb, lo + k * 7 + 5, none⟩) HLB.out).trans Q5.out; have q6 := (hg.cell (p := ⟨lb, lo + k * 7 + 6, none⟩) HLB.out).trans Q6.out
              go_simp
              exact hK.out _ _ hg ⟨nn,nn,nn,nn, fun _ => rfl, nn,nn,nn,nn,nn,nn,nn,nn⟩ (fun _ _ h => h)
             case s5 =>
              intro a w' hoff hg hdep K hK
              obtain ⟨v4, e4, f4⟩ := hdep 4 _ 110 (by kernel_rfl) rfl rfl
              obtain rfl := (f4.2.2.2.2.1 rfl).symm
              rw [if_pos (by rfl)]
              go_simp
              refine (prTm_any y S _ _ _ _ _ _ _ _ (fun k hk => Nat.lt_of_lt_of_le (hS k hk) (Below.step HBL.out hg).size) (by have := HG.out; have := (Below.step HBL.out hg).size; omega) (HT.out.below HG.out (Below.step HBL.out hg)) (RepM.on (fun _ h => h) (fun j hj => hg.block j (Nat.lt_of_lt_of_le (HSZ.out j hj) HBEL.out.size)) y G.out) (fun h => showM_fits h)).mono ?_
              rw [HTB.out]
              rintro e w2 ⟨rfl, hb⟩
              exact hK.out _ _ (Below.step hg hb) ⟨nn,nn,nn,nn,nn, fun _ => rfl, nn,nn,nn,nn,nn,nn,nn⟩ (fun _ _ h => h)
             case s6 =>
              intro a w' hoff hg hdep K hK
              have h6 := off_at hoff 6 (v := .pointer (some ⟨bR, 0, none⟩)) (by kernel_rfl) rfl
              rw [if_pos (by rfl)]
              go_simp
              exact hK.out _ _ hg ⟨nn,nn,nn,nn,nn,nn, fun _ => rfl, nn,nn,nn,nn,nn,nn⟩ (fun _ _ h => h)
             case s7 =>
              intro a w' hoff hg hdep K hK
              obtain ⟨v6, e6, f6⟩ := hdep 6 _ 112 (by kernel_rfl) rfl rfl
              obtain rfl := (f6.2.2.2.2.2.2.1 rfl).symm
              rw [if_pos (by rfl)]
              obtain ⟨p0, p1, p2, p3, p4, p5⟩ := (XR.out.on hg).cells; rw [HGA2.out] at p2; have q0 := (hg.cell (p := ⟨lb, lo + k * 7, none⟩) HLB.out).trans Q0.out; have q1 := (hg.cell (p := ⟨lb, lo + k * 7 + 1, none⟩) HLB.out).trans Q1.out; have q2 := (hg.cell (p := ⟨lb, lo + k * 7 + 2, none⟩) HLB.out).trans Q2.out; have q3 := (hg.cell (p := ⟨lb, lo + k * 7 + 3, none⟩) HLB.out).trans Q3.out; have q4 := (hg.cell (p := ⟨lb, lo + k * 7 + 4, none⟩) HLB.out).trans Q4.out; have q5 := (hg.cell (p := ⟨lb, lo + k * 7 + 5, none⟩) HLB.out).trans Q5.out; have q6 := (hg.cell (p := ⟨lb, lo + k * 7 + 6, none⟩) HLB.out).trans Q6.out
              go_simp
              exact hK.out _ _ hg ⟨nn,nn,nn,nn,nn,nn,nn, fun _ => rfl, nn,nn,nn,nn,nn⟩ (fun _ _ h => h)
             case s8 =>
              intro a w' hoff hg hdep K hK
              have h8 := off_at hoff 8 (v := .int .i64 (k : Int)) (by kernel_rfl) rfl
              rw [if_pos (by rfl)]
              go_simp
              exact hK.out _ _ hg ⟨nn,nn,nn,nn,nn,nn,nn,nn, fun _ => rfl, nn,nn,nn,nn⟩ (fun _ _ h => h)
             case s9 =>
              intro a w' hoff hg hdep K hK
              obtain ⟨v7, e7, f7⟩ := hdep 7 _ 113 (by kernel_rfl) rfl rfl
              obtain rfl := (f7.2.2.2.2.2.2.2.1 rfl).symm
              obtain ⟨v8, e8, f8⟩ := hdep 8 _ 114 (by kernel_rfl) rfl rfl
              obtain rfl := (f8.2.2.2.2.2.2.2.2.1 rfl).symm
              rw [if_pos (by rfl)]
              have hk1 := HK1.out; have hk2 := HK2.out
              go_simp
              exact hK.out _ _ hg ⟨nn,nn,nn,nn,nn,nn,nn,nn,nn, fun _ => rfl, nn,nn,nn⟩ (fun _ _ h => h)
             case s10 =>
              intro a w' hoff hg hdep K hK
              obtain ⟨v9, e9, f9⟩ := hdep 9 _ 115 (by kernel_rfl) rfl rfl
              obtain rfl := (f9.2.2.2.2.2.2.2.2.2.1 rfl).symm
              rw [if_pos (by rfl)]
              obtain ⟨p0, p1, p2, p3, p4, p5⟩ := (XR.out.on hg).cells; rw [HGA2.out] at p2; have q0 := (hg.cell (p := ⟨lb, lo + k * 7, none⟩) HLB.out).trans Q0.out; have q1 := (hg.cell (p := ⟨lb, lo + k * 7 + 1, none⟩) HLB.out).trans Q1.out; have q2 := (hg.cell (p := ⟨lb, lo + k * 7 + 2, none⟩) HLB.out).trans Q2.out; have q3 := (hg.cell (p := ⟨lb, lo + k * 7 + 3, none⟩) HLB.out).trans Q3.out; have q4 := (hg.cell (p := ⟨lb, lo + k * 7 + 4, none⟩) HLB.out).trans Q4.out; have q5 := (hg.cell (p := ⟨lb, lo + k * 7 + 5, none⟩) HLB.out).trans Q5.out; have q6 := (hg.cell (p := ⟨lb, lo + k * 7 + 6, none⟩) HLB.out).trans Q6.out
              go_simp
              exact hK.out _ _ hg ⟨nn,nn,nn,nn,nn,nn,nn,nn,nn,nn, fun _ => rfl, nn,nn⟩ (fun _ _ h => h)
             case s11 =>
              intro a w' hoff hg hdep K hK
              obtain ⟨v10, e10, f10⟩ := hdep 10 _ 116 (by kernel_rfl) rfl rfl
              obtain rfl := (f10.2.2.2.2.2.2.2.2.2.2.1 rfl).symm
              rw [if_pos (by rfl)]
              go_simp
              refine (refTmText_any y S _ _ _ _ _ _ _ _ (fun k hk => Nat.lt_of_lt_of_le (hS k hk) (Below.step HBL.out hg).size) (RepM.on (fun _ h => h) (fun j hj => hg.block j (Nat.lt_of_lt_of_le (HSZ.out j hj) HBEL.out.size)) y G.out) (fun h => showM_fits h)).mono ?_
              rw [HTB.out]
              rintro e w2 ⟨rfl, hb⟩
              exact hK.out _ _ (Below.step hg hb) ⟨nn,nn,nn,nn,nn,nn,nn,nn,nn,nn,nn, fun _ => rfl, nn⟩ (fun _ _ h => h)
             case s12 =>
              intro a w' hoff hg hdep K hK
              obtain ⟨v5, e5, f5⟩ := hdep 5 _ 111 (by kernel_rfl) rfl rfl
              obtain rfl := (f5.2.2.2.2.2.1 rfl).symm
              obtain ⟨v11, e11, f11⟩ := hdep 11 _ 117 (by kernel_rfl) rfl rfl
              obtain rfl := (f11.2.2.2.2.2.2.2.2.2.2.2.1 rfl).symm
              rw [if_pos (by rfl)]
              go_simp
              exact hK.out _ _ hg ⟨nn,nn,nn,nn,nn,nn,nn,nn,nn,nn,nn,nn, fun _ => rfl⟩ (fun _ _ h => h)
             case fin =>
              intro a w9 hoff hg hf
              obtain ⟨v0, e0, f0⟩ := hf 0 _ 106 rfl rfl
              obtain rfl := (f0.1 rfl).symm
              obtain ⟨v1, e1, f1⟩ := hf 1 _ 107 rfl rfl
              obtain rfl := (f1.2.1 rfl).symm
              obtain ⟨v2, e2, f2⟩ := hf 2 _ 108 rfl rfl
              obtain rfl := (f2.2.2.1 rfl).symm
              obtain ⟨v3, e3, f3⟩ := hf 3 _ 109 rfl rfl
              obtain rfl := (f3.2.2.2.1 rfl).symm
              obtain ⟨v4, e4, f4⟩ := hf 4 _ 110 rfl rfl
              obtain rfl := (f4.2.2.2.2.1 rfl).symm
              obtain ⟨v5, e5, f5⟩ := hf 5 _ 111 rfl rfl
              obtain rfl := (f5.2.2.2.2.2.1 rfl).symm
              obtain ⟨v6, e6, f6⟩ := hf 6 _ 112 rfl rfl
              obtain rfl := (f6.2.2.2.2.2.2.1 rfl).symm
              obtain ⟨v7, e7, f7⟩ := hf 7 _ 113 rfl rfl
              obtain rfl := (f7.2.2.2.2.2.2.2.1 rfl).symm
              obtain ⟨v8, e8, f8⟩ := hf 8 _ 114 rfl rfl
              obtain rfl := (f8.2.2.2.2.2.2.2.2.1 rfl).symm
              obtain ⟨v9, e9, f9⟩ := hf 9 _ 115 rfl rfl
              obtain rfl := (f9.2.2.2.2.2.2.2.2.2.1 rfl).symm
              obtain ⟨v10, e10, f10⟩ := hf 10 _ 116 rfl rfl
              obtain rfl := (f10.2.2.2.2.2.2.2.2.2.2.1 rfl).symm
              obtain ⟨v11, e11, f11⟩ := hf 11 _ 117 rfl rfl
              obtain rfl := (f11.2.2.2.2.2.2.2.2.2.2.2.1 rfl).symm
              obtain ⟨v12, e12, f12⟩ := hf 12 _ 118 rfl rfl
              obtain rfl := (f12.2.2.2.2.2.2.2.2.2.2.2.2 rfl).symm
              rw [hoff.sets [(106, .pointer (some ⟨bR, 2, none⟩)), (107, .slice (some ⟨lb, lo, none⟩) r.args.length fc), (108, .int .i64 (k : Int)), (109, .pointer (some ⟨lb, lo + k * 7, none⟩)), (110, .agg #[.int .i64 y.kind, .string y.name, .int .i64 y.val.kind, .int .i64 y.val.num, .string y.val.text, .slice fa2 y.val.list.length fc2, .slice ga2 y.args.length gc2]), (111, .string TB), (112, .pointer (some ⟨bR, 2, none⟩)), (113, .slice (some ⟨lb, lo, none⟩) r.args.length fc), (114, .int .i64 (k : Int)), (115, .pointer (some ⟨lb, lo + k * 7, none⟩)), (116, .agg #[.int .i64 y.kind, .string y.name, .int .i64 y.val.kind, .int .i64 y.val.num, .string y.val.text, .slice fa2 y.val.list.length fc2, .slice ga2 y.args.length gc2]), (117, .string TB), (118, .bool false)] (by kernel_rfl) (by intro p hp; simp only [List.mem_cons, List.not_mem_nil, or_false] at hp; rcases hp with rfl | rfl | rfl | rfl | rfl | rfl | rfl | rfl | rfl | rfl | rfl | rfl | rfl <;> assumption)]
              clear hoff hf e0 f0 e1 f1 e2 f2 e3 f3 e4 f4 e5 f5 e6 f6 e7 f7 e8 f8 e9 f9 e10 f10 e11 f11 e12 f12
              simp only [List.foldl_cons, List.foldl_nil, List.setIfInBounds_toArray, List.set_cons_zero, List.set_cons_succ]
              go_wp2_with fail
              go_roundw
              case rel => exact ⟨k + 1, by omega, by omega, by go_num, Below.step HBEL.out hg⟩
              case measure => simp [intOf]; omega
            ·obtain rfl : k = 9 := by omega
             have HB4 := Lib.hid (Below.trans HB3.out (Below.mono hbel HB3.out.size))
             clear hbel
             go_wp2_with fail
             go_roundw
             case rel => exact ⟨k2 + 1, by omega, by omega, by go_num, Below.trans HBEL2.out (Below.mono HB4.out HBEL2.out.size)⟩
             case measure => simp [intOf]; omega
           ·obtain rfl : k = r.args.length := by omega
            have HB4 := Lib.hid (Below.trans HB3.out (Below.mono hbel HB3.out.size))
            clear hbel
            go_wp2_with fail
            go_roundw
            case rel => exact ⟨k2 + 1, by omega, by omega, by go_num, Below.trans HBEL2.out (Below.mono HB4.out HBEL2.out.size)⟩
            case measure => simp [intOf]; omega
      ·obtain rfl : k2 = 64 := by omega
       have B9 := Lib.hid (Below.step B8.out hbel)
       go_wp2_with fail
       go_ret
       exact ⟨rfl, B9.out⟩
     ·obtain rfl : k2 = x.rules.length := by omega
      have B9 := Lib.hid (Below.step B8.out hbel)
      go_wp2_with fail
      go_ret
      exact ⟨rfl, B9.out⟩
end Go.Proofs.YtgjemmdhamkngaaGreatDoor
