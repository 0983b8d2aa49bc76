/-
  SameProg
-/
import Derived.Test.YtgjemmdhamkngaaGreatDoorKB
import Derived.Test.YtgjemmdhamkngaaGreatDoorKSamePr
import Derived.Test.YtgjemmdhamkngaaGreatDoorK28
import Derived.Deep.Cut
namespace Go.Proofs.YtgjemmdhamkngaaGreatDoor
open Go.RowKit
theorem pr_ext {x y : Pr} : x = y ↔ (x.decls = y.decls ∧ x.facts = y.facts ∧ x.rules = y.rules) := by
 cases x; cases y
 simp
theorem de_ext {x y : De} : x = y ↔ (x.name = y.name ∧ x.arity = y.arity) := by
 cases x; cases y
 simp
theorem if_de (u v : De) (b : Bool) (h : eqB (u = v) = b) (w : World) : (if u.name.toList = v.name.toList then if u.arity = v.arity then (Result.ok (Next.value (Value.bool false)) w) else Result.ok (Next.value (Value.bool true)) w else Result.ok (Next.value (Value.bool true)) w) = Result.ok (Next.value (Value.bool (!b))) w := by
 by_cases e : u = v
 ·subst e
  rw [eqB_true rfl] at h
  subst h
  simp
 ·rw [eqB_false e] at h
  subst h
  by_cases h1 : u.name = v.name
  ·have h2 : ¬ u.arity = v.arity := fun e' => e (de_ext.2 ⟨h1, e'⟩)
   rw [if_pos (by rw [h1]), if_neg h2]; rfl
  ·rw [if_neg (fun e' => h1 (toList_inj e'))]; rfl
set_option maxRecDepth 100000 in
set_option maxHeartbeats 6000000 in
theorem samePr_any (x y : Pr) (S : Nat → Prop) (w : World) (c0 c1 c2 d0 d1 d2 : Value) (hS : ∀ k, S k → k < w.heap.size) (hx : RepPr S w x c0 c1 c2) (hy : RepPr S w y d0 d1 d2) (hlx : x.decls.length ≤ 1000 ∧ x.facts.length ≤ 1000 ∧ x.rules.length ≤ 1000) :
  Calls Tryz.prog 23 #[.agg #[c0, c1, c2], .agg #[d0, d1, d2]] w fun e w' => e = .returned (.bool (eqB (x = y))) ∧ Below w.heap.size w w' := by
 have HS := Lib.hid hS; have HX := Lib.hid hx; have HY := Lib.hid hy; have HLX := Lib.hid hlx
 obtain ⟨fa, fc, rfl⟩ := SlG.form hx.1
 obtain ⟨ga, gc, rfl⟩ := SlG.form hx.2.1
 obtain ⟨ha, hc, rfl⟩ := SlG.form hx.2.2
 obtain ⟨ia, ic, rfl⟩ := SlG.form hy.1
 obtain ⟨ja, jc, rfl⟩ := SlG.form hy.2.1
 obtain ⟨ka, kc, rfl⟩ := SlG.form hy.2.2
 have HEX := Lib.hid (pr_ext (x := x) (y := y))
 clear hx hy hS hlx
 go_enter Tryz.func23, Tryz.ntmps23
 go_upto_region 1 with fail
 have x0 := boxPr_new w (.slice fa x.decls.length fc) (.slice ga x.facts.length gc) (.slice ha x.rules.length hc)
 have b0 := below_alloc w (.cells #[.slice fa x.decls.length fc, .slice ga x.facts.length gc, .slice ha x.rules.length hc] 26)
 have s0 := World.size_alloc w (.cells #[.slice fa x.decls.length fc, .slice ga x.facts.length gc, .slice ha x.rules.length hc] 26)
 generalize w.alloc (.cells #[.slice fa x.decls.length fc, .slice ga x.facts.length gc, .slice ha x.rules.length hc] 26) = w0 at *
 have x1 := boxPr_new w0 (.slice ia y.decls.length ic) (.slice ja y.facts.length jc) (.slice ka y.rules.length kc)
 have b1 := below_alloc w0 (.cells #[.slice ia y.decls.length ic, .slice ja y.facts.length jc, .slice ka y.rules.length kc] 26)
 generalize w0.alloc (.cells #[.slice ia y.decls.length ic, .slice ja y.facts.length jc, .slice ka y.rules.length kc] 26) = w1 at *
 rw [s0] at x1
 have X0 := Lib.hid (x0.on b1); have X1 := Lib.hid x1; have B1 := Lib.hid (Below.step b0 b1)
 clear x0 x1 b0 b1 s0
 obtain ⟨p0, p1, p2⟩ := X0.out.cells
 obtain ⟨q0, q1, q2⟩ := X1.out.cells
 by_cases h0 : x.decls.length = y.decls.length
 ·have n0 : ((x.decls.length : Int) != (y.decls.length : Int)) = false := by simp; omega
  have HN0 := Lib.hid h0
  clear h0
  by_cases h1 : x.facts.length = y.facts.length
  ·have n1 : ((x.facts.length : Int) != (y.facts.length : Int)) = false := by simp; omega
   have HN1 := Lib.hid h1
   clear h1
   by_cases h2 : x.rules.length = y.rules.length
   ·have n2 : ((x.rules.length : Int) != (y.rules.length : Int)) = false := by simp; omega
    have HN2 := Lib.hid h2
    clear h2
    go_wp2_with fail
    clear p0 p1 p2 q0 q1 q2
    clear n0
    clear n1
    clear n2
    go_loopw [5] (fun iv wr => ∃ k : Nat, k ≤ x.decls.length ∧ iv = .int .i64 k ∧ Hid (x.decls = y.decls ↔ x.decls.drop k = y.decls.drop k) ∧ Below w1.heap.size w1 wr) (fun iv _ => x.decls.length - (intOf iv).toNat)
    case atStart => exact ⟨0, Nat.zero_le _, rfl, Iff.rfl, Below.refl _ _⟩
    case round =>
     obtain ⟨k, hkl, rfl, hrec, hbel⟩ := hrel
     have HREC := hrec; have HBEL := Lib.hid hbel
     have XR := Lib.hid (X0.out.on hbel); have YR := Lib.hid (X1.out.on hbel); have BR := Lib.hid (Below.step B1.out hbel)
     clear hrec
     obtain ⟨p0, p1, p2⟩ := XR.out.cells
     by_cases hl : k < x.decls.length
     ·have hm : k < y.decls.length := by have := HN0.out; omega
      have hA := (RepDes.on (fun _ h => h) (fun j hj => BR.out.block j (HS.out j hj)) HX.out.1 : RepDes S wr x.decls (.slice fa x.decls.length fc))
      have hB := (RepDes.on (fun _ h => h) (fun j hj => BR.out.block j (HS.out j hj)) HY.out.1 : RepDes S wr y.decls (.slice ia y.decls.length ic))
      obtain ⟨-, -, lb, lo, hga, hSl, q0, q1, gx⟩ := RepDes.at hA k hl
      obtain ⟨-, -, mb, mo, hgb, hSm, p0, p1, gy⟩ := RepDes.at hB k hm
      have HGA := Lib.hid hga; have HGB := Lib.hid hgb
      have HSR := Lib.hid (fun j (hj : S j) => Nat.lt_of_lt_of_le (HS.out j hj) BR.out.size)
      have HLB := Lib.hid (HSR.out lb hSl); have HMB := Lib.hid (HSR.out mb hSm)
      have Q0 := Lib.hid q0; have Q1 := Lib.hid q1
      have P0 := Lib.hid p0; have P1 := Lib.hid p1
      have GU := Lib.hid gx; have GV := Lib.hid gy
      have HK1 : Hid ((0 : Int) ≤ (k : Int)) := Int.natCast_nonneg k
      have HK2 : Hid ((k : Int) < (x.decls.length : Int)) := by show _ < _; omega
      have HK3 : Hid ((k : Int) < (y.decls.length : Int)) := by show _ < _; omega
      have HKL : Hid (k < x.decls.length) := hl
      have HDR := Lib.hid (drop_cons hl hm)
      clear hA hB hga hgb q0 q1 p0 p1 gx gy hSl hSm hbel
      generalize x.decls[k] = u at *
      generalize y.decls[k] = v at *
      obtain ⟨b, hb⟩ : ∃ b, eqB (u = v) = b := ⟨_, rfl⟩
      have HB := Lib.hid hb
      clear hb
      obtain ⟨p0, p1, p2⟩ := XR.out.cells
      go_wp2_with fail
      clear p0 p1 p2
      refine wp_region_factsG (by rfl) 89 (by rfl) (by kernel_rfl) (fun wz iz vz => (iz = 0 → vz = .pointer (some ⟨w.heap.size, 0, none⟩)) ∧ (iz = 1 → vz = .slice (some ⟨lb, lo, none⟩) x.decls.length fc) ∧ (iz = 2 → vz = .int .i64 (k : Int)) ∧ (iz = 3 → vz = .pointer (some ⟨lb, lo + k * 2, none⟩)) ∧ (iz = 4 → vz = .agg #[.string u.name, .int .i64 u.arity]) ∧ (iz = 5 → vz = .pointer (some ⟨w.heap.size + 1, 0, none⟩)) ∧ (iz = 6 → vz = .slice (some ⟨mb, mo, none⟩) y.decls.length ic) ∧ (iz = 7 → vz = .int .i64 (k : Int)) ∧ (iz = 8 → vz = .pointer (some ⟨mb, mo + k * 2, none⟩)) ∧ (iz = 9 → vz = .agg #[.string v.name, .int .i64 v.arity]) ∧ (iz = 10 → vz = .bool (!b))) (fun w' => Below wr.heap.size wr w') (Below.drew (Below.refl _ _)) ⟨?s0, ?s1, ?s2, ?s3, ?s4, ?s5, ?s6, ?s7, ?s8, ?s9, ?s10, trivial⟩ ?fin
      case s0 =>
       intro a w' hoff hg hdep K hK
       have h2 := off_at hoff 2 (v := .pointer (some ⟨w.heap.size, 0, none⟩)) (by kernel_rfl) rfl
       rw [if_pos (by rfl)]
       go_simp
       exact hK.out _ _ hg ⟨fun _ => rfl, nn,nn,nn,nn,nn,nn,nn,nn,nn,nn⟩ (fun _ _ h => h)
      case s1 =>
       intro a w' hoff hg hdep K hK
       obtain ⟨v0, e0, f0⟩ := hdep 0 _ 40 (by kernel_rfl) rfl rfl
       obtain rfl := (f0.1 rfl).symm
       rw [if_pos (by rfl)]
       obtain ⟨t0, t1, t2⟩ := (XR.out.on hg).cells; obtain ⟨r0, r1, r2⟩ := (YR.out.on hg).cells; rw [HGA.out] at t0; rw [HGB.out] at r0; have q0 := (hg.cell (p := ⟨lb, lo + k * 2, none⟩) HLB.out).trans Q0.out; have q1 := (hg.cell (p := ⟨lb, lo + k * 2 + 1, none⟩) HLB.out).trans Q1.out; have p0 := (hg.cell (p := ⟨mb, mo + k * 2, none⟩) HMB.out).trans P0.out; have p1 := (hg.cell (p := ⟨mb, mo + k * 2 + 1, none⟩) HMB.out).trans P1.out
       go_simp
       exact hK.out _ _ hg ⟨nn, fun _ => rfl, nn,nn,nn,nn,nn,nn,nn,nn,nn⟩ (fun _ _ h => h)
      case s2 =>
       intro a w' hoff hg hdep K hK
       have h5 := off_at hoff 5 (v := .int .i64 (k : Int)) (by kernel_rfl) rfl
       rw [if_pos (by rfl)]
       go_simp
       exact hK.out _ _ hg ⟨nn,nn, fun _ => rfl, nn,nn,nn,nn,nn,nn,nn,nn⟩ (fun _ _ h => h)
      case s3 =>
       intro a w' hoff hg hdep K hK
       obtain ⟨v1, e1, f1⟩ := hdep 1 _ 41 (by kernel_rfl) rfl rfl
       obtain rfl := (f1.2.1 rfl).symm
       obtain ⟨v2, e2, f2⟩ := hdep 2 _ 42 (by kernel_rfl) rfl rfl
       obtain rfl := (f2.2.2.1 rfl).symm
       rw [if_pos (by rfl)]
       have hk1 := HK1.out; have hk2 := HK2.out
       go_simp
       exact hK.out _ _ hg ⟨nn,nn,nn, fun _ => rfl, nn,nn,nn,nn,nn,nn,nn⟩ (fun _ _ h => h)
      case s4 =>
       intro a w' hoff hg hdep K hK
       obtain ⟨v3, e3, f3⟩ := hdep 3 _ 43 (by kernel_rfl) rfl rfl
       obtain rfl := (f3.2.2.2.1 rfl).symm
       rw [if_pos (by rfl)]
       obtain ⟨t0, t1, t2⟩ := (XR.out.on hg).cells; obtain ⟨r0, r1, r2⟩ := (YR.out.on hg).cells; rw [HGA.out] at t0; rw [HGB.out] at r0; have q0 := (hg.cell (p := ⟨lb, lo + k * 2, none⟩) HLB.out).trans Q0.out; have q1 := (hg.cell (p := ⟨lb, lo + k * 2 + 1, none⟩) HLB.out).trans Q1.out; have p0 := (hg.cell (p := ⟨mb, mo + k * 2, none⟩) HMB.out).trans P0.out; have p1 := (hg.cell (p := ⟨mb, mo + k * 2 + 1, none⟩) HMB.out).trans P1.out
       go_simp
       exact hK.out _ _ hg ⟨nn,nn,nn,nn, fun _ => rfl, nn,nn,nn,nn,nn,nn⟩ (fun _ _ h => h)
      case s5 =>
       intro a w' hoff hg hdep K hK
       have h3 := off_at hoff 3 (v := .pointer (some ⟨w.heap.size + 1, 0, none⟩)) (by kernel_rfl) rfl
       rw [if_pos (by rfl)]
       go_simp
       exact hK.out _ _ hg ⟨nn,nn,nn,nn,nn, fun _ => rfl, nn,nn,nn,nn,nn⟩ (fun _ _ h => h)
      case s6 =>
       intro a w' hoff hg hdep K hK
       obtain ⟨v5, e5, f5⟩ := hdep 5 _ 45 (by kernel_rfl) rfl rfl
       obtain rfl := (f5.2.2.2.2.2.1 rfl).symm
       rw [if_pos (by rfl)]
       obtain ⟨t0, t1, t2⟩ := (XR.out.on hg).cells; obtain ⟨r0, r1, r2⟩ := (YR.out.on hg).cells; rw [HGA.out] at t0; rw [HGB.out] at r0; have q0 := (hg.cell (p := ⟨lb, lo + k * 2, none⟩) HLB.out).trans Q0.out; have q1 := (hg.cell (p := ⟨lb, lo + k * 2 + 1, none⟩) HLB.out).trans Q1.out; have p0 := (hg.cell (p := ⟨mb, mo + k * 2, none⟩) HMB.out).trans P0.out; have p1 := (hg.cell (p := ⟨mb, mo + k * 2 + 1, none⟩) HMB.out).trans P1.out
       go_simp
       exact hK.out _ _ hg ⟨nn,nn,nn,nn,nn,nn, fun _ => rfl, nn,nn,nn,nn⟩ (fun _ _ h => h)
      case s7 =>
       intro a w' hoff hg hdep K hK
       have h5 := off_at hoff 5 (v := .int .i64 (k : Int)) (by kernel_rfl) rfl
       rw [if_pos (by rfl)]
       go_simp
       exact hK.out _ _ hg ⟨nn,nn,nn,nn,nn,nn,nn, fun _ => rfl, nn,nn,nn⟩ (fun _ _ h => h)
      case s8 =>
       intro a w' hoff hg hdep K hK
       obtain ⟨v6, e6, f6⟩ := hdep 6 _ 46 (by kernel_rfl) rfl rfl
       obtain rfl := (f6.2.2.2.2.2.2.1 rfl).symm
       obtain ⟨v7, e7, f7⟩ := hdep 7 _ 47 (by kernel_rfl) rfl rfl
       obtain rfl := (f7.2.2.2.2.2.2.2.1 rfl).symm
       rw [if_pos (by rfl)]
       have hk1 := HK1.out; have hk3 := HK3.out
       go_simp
       exact hK.out _ _ hg ⟨nn,nn,nn,nn,nn,nn,nn,nn, fun _ => rfl, nn,nn⟩ (fun _ _ h => h)
      case s9 =>
       intro a w' hoff hg hdep K hK
       obtain ⟨v8, e8, f8⟩ := hdep 8 _ 48 (by kernel_rfl) rfl rfl
       obtain rfl := (f8.2.2.2.2.2.2.2.2.1 rfl).symm
       rw [if_pos (by rfl)]
       obtain ⟨t0, t1, t2⟩ := (XR.out.on hg).cells; obtain ⟨r0, r1, r2⟩ := (YR.out.on hg).cells; rw [HGA.out] at t0; rw [HGB.out] at r0; have q0 := (hg.cell (p := ⟨lb, lo + k * 2, none⟩) HLB.out).trans Q0.out; have q1 := (hg.cell (p := ⟨lb, lo + k * 2 + 1, none⟩) HLB.out).trans Q1.out; have p0 := (hg.cell (p := ⟨mb, mo + k * 2, none⟩) HMB.out).trans P0.out; have p1 := (hg.cell (p := ⟨mb, mo + k * 2 + 1, none⟩) HMB.out).trans P1.out
       go_simp
       exact hK.out _ _ hg ⟨nn,nn,nn,nn,nn,nn,nn,nn,nn, fun _ => rfl, nn⟩ (fun _ _ h => h)
      case s10 =>
       intro a w' hoff hg hdep K hK
       obtain ⟨v4, e4, f4⟩ := hdep 4 _ 44 (by kernel_rfl) rfl rfl
       obtain rfl := (f4.2.2.2.2.1 rfl).symm
       obtain ⟨v9, e9, f9⟩ := hdep 9 _ 49 (by kernel_rfl) rfl rfl
       obtain rfl := (f9.2.2.2.2.2.2.2.2.2.1 rfl).symm
       rw [if_pos (by rfl)]
       go_simp
       rw [if_de u v b HB.out w']
       go_simp
       exact hK.out _ _ hg ⟨nn,nn,nn,nn,nn,nn,nn,nn,nn,nn, fun _ => rfl⟩ (fun _ _ h => h)
      case fin =>
       intro a w9 hoff hg hf
       obtain ⟨v0, e0, f0⟩ := hf 0 _ 40 rfl rfl
       obtain rfl := (f0.1 rfl).symm
       obtain ⟨v1, e1, f1⟩ := hf 1 _ 41 rfl rfl
       obtain rfl := (f1.2.1 rfl).symm
       obtain ⟨v2, e2, f2⟩ := hf 2 _ 42 rfl rfl
       obtain rfl := (f2.2.2.1 rfl).symm
       obtain ⟨v3, e3, f3⟩ := hf 3 _ 43 rfl rfl
       obtain rfl := (f3.2.2.2.1 rfl).symm
       obtain ⟨v4, e4, f4⟩ := hf 4 _ 44 rfl rfl
       obtain rfl := (f4.2.2.2.2.1 rfl).symm
       obtain ⟨v5, e5, f5⟩ := hf 5 _ 45 rfl rfl
       obtain rfl := (f5.2.2.2.2.2.1 rfl).symm
       obtain ⟨v6, e6, f6⟩ := hf 6 _ 46 rfl rfl
       obtain rfl := (f6.2.2.2.2.2.2.1 rfl).symm
       obtain ⟨v7, e7, f7⟩ := hf 7 _ 47 rfl rfl
       obtain rfl := (f7.2.2.2.2.2.2.2.1 rfl).symm
       obtain ⟨v8, e8, f8⟩ := hf 8 _ 48 rfl rfl
       obtain rfl := (f8.2.2.2.2.2.2.2.2.1 rfl).symm
       obtain ⟨v9, e9, f9⟩ := hf 9 _ 49 rfl rfl
       obtain rfl := (f9.2.2.2.2.2.2.2.2.2.1 rfl).symm
       obtain ⟨v10, e10, f10⟩ := hf 10 _ 50 rfl rfl
       obtain rfl := (f10.2.2.2.2.2.2.2.2.2.2 rfl).symm
       rw [hoff.sets [(40, .pointer (some ⟨w.heap.size, 0, none⟩)), (41, .slice (some ⟨lb, lo, none⟩) x.decls.length fc), (42, .int .i64 (k : Int)), (43, .pointer (some ⟨lb, lo + k * 2, none⟩)), (44, .agg #[.string u.name, .int .i64 u.arity]), (45, .pointer (some ⟨w.heap.size + 1, 0, none⟩)), (46, .slice (some ⟨mb, mo, none⟩) y.decls.length ic), (47, .int .i64 (k : Int)), (48, .pointer (some ⟨mb, mo + k * 2, none⟩)), (49, .agg #[.string v.name, .int .i64 v.arity]), (50, .bool (!b))] (by kernel_rfl) (by intro p hp; simp only [List.mem_cons, List.not_mem_nil, or_false] at hp; rcases hp with rfl | rfl | rfl | rfl | rfl | rfl | rfl | rfl | rfl | rfl | rfl <;> assumption)]
       clear hoff hf e0 f0 e1 f1 e2 f2 e3 f3 e4 f4 e5 f5 e6 f6 e7 f7 e8 f8 e9 f9 e10 f10
       simp only [List.foldl_cons, List.foldl_nil, List.setIfInBounds_toArray, List.set_cons_zero, List.set_cons_succ]
       have B9 := Lib.hid (Below.step BR.out hg); have H9 := Lib.hid (Below.step HBEL.out hg)
       clear hg
       cases b with
       | false =>
        have HF : Hid (eqB (x = y) = false) := by
         show _ = _
         exact eqB_false (fun e => not_eqB HB.out (HDR.out.1 (HREC.out.1 (HEX.out.1 e).1)).1)
        go_wp2_with fail
        go_ret
        exact ⟨retB HF.out.symm, B9.out⟩
       | true =>
        have HNX : Hid (x.decls = y.decls ↔ x.decls.drop (k + 1) = y.decls.drop (k + 1)) := by
         show _ ↔ _
         rw [HREC.out, HDR.out]
         exact ⟨fun h => h.2, fun h => ⟨of_eqB HB.out, h⟩⟩
        go_wp2_with fail
        go_roundw
        case rel => exact ⟨k + 1, HKL.out, (by have := HKL.out; have := HLX.out; rw [show wrap64 ((k : Int) + 1) = ((k + 1 : Nat) : Int) by unfold wrap64; omega]), HNX.out, H9.out⟩
        case measure => exact measure_up HKL.out HLX.out.1
     ·have HE0 : Hid (x.decls = y.decls) := by
       show _ = _
       rw [HREC.out, List.drop_of_length_le (by omega), List.drop_of_length_le (by have := HN0.out; omega)]
      have hkl2 : ¬ ((k : Int) < (x.decls.length : Int)) := by omega
      have B2 := BR; have X2 := XR; have Y2 := YR
      clear HREC HBEL XR YR BR hbel hl hkl
      generalize wr = w2 at *
      go_wp2_with fail
      clear hkl2 p0 p1 p2
      go_loopw [6] (fun iv wr => ∃ k : Nat, k ≤ x.facts.length ∧ iv = .int .i64 k ∧ Hid (x.facts = y.facts ↔ x.facts.drop k = y.facts.drop k) ∧ Below w2.heap.size w2 wr) (fun iv _ => x.facts.length - (intOf iv).toNat)
      case atStart => exact ⟨0, Nat.zero_le _, rfl, Iff.rfl, Below.refl _ _⟩
      case round =>
       obtain ⟨k, hkl, rfl, hrec, hbel⟩ := hrel
       have HREC := hrec; have HBEL := Lib.hid hbel
       have XR := Lib.hid (X2.out.on hbel); have YR := Lib.hid (Y2.out.on hbel); have BR := Lib.hid (Below.step B2.out hbel)
       clear hrec
       obtain ⟨p0, p1, p2⟩ := XR.out.cells
       by_cases hl : k < x.facts.length
       ·have hm : k < y.facts.length := by have := HN1.out; omega
        have hA := (RepFas.on (fun _ h => h) (fun j hj => BR.out.block j (HS.out j hj)) HX.out.2.1 : RepFas S wr x.facts (.slice ga x.facts.length gc))
        have hB := (RepFas.on (fun _ h => h) (fun j hj => BR.out.block j (HS.out j hj)) HY.out.2.1 : RepFas S wr y.facts (.slice ja y.facts.length jc))
        obtain ⟨-, -, lb, lo, l0, l1, hga, hSl, q0, q1, gx⟩ := RepFas.at hA k hl
        obtain ⟨-, -, mb, mo, m0, m1, hgb, hSm, p0, p1, gy⟩ := RepFas.at hB k hm
        have HGA := Lib.hid hga; have HGB := Lib.hid hgb
        have HSR := Lib.hid (fun j (hj : S j) => Nat.lt_of_lt_of_le (HS.out j hj) BR.out.size)
        have HLB := Lib.hid (HSR.out lb hSl); have HMB := Lib.hid (HSR.out mb hSm)
        have Q0 := Lib.hid q0; have Q1 := Lib.hid q1
        have P0 := Lib.hid p0; have P1 := Lib.hid p1
        have GU := Lib.hid gx; have GV := Lib.hid gy
        have HK1 : Hid ((0 : Int) ≤ (k : Int)) := Int.natCast_nonneg k
        have HK2 : Hid ((k : Int) < (x.facts.length : Int)) := by show _ < _; omega
        have HK3 : Hid ((k : Int) < (y.facts.length : Int)) := by show _ < _; omega
        have HKL : Hid (k < x.facts.length) := hl
        have HDR := Lib.hid (drop_cons hl hm)
        clear hA hB hga hgb q0 q1 p0 p1 gx gy hSl hSm hbel
        generalize x.facts[k] = u at *
        generalize y.facts[k] = v at *
        obtain ⟨b, hb⟩ : ∃ b, eqB (u = v) = b := ⟨_, rfl⟩
        have HB := Lib.hid hb
        clear hb
        obtain ⟨p0, p1, p2⟩ := XR.out.cells
        go_wp2_with fail
        clear p0 p1 p2
        refine wp_region_factsG (by rfl) 89 (by rfl) (by kernel_rfl) (fun wz iz vz => (iz = 0 → vz = .pointer (some ⟨w.heap.size, 1, none⟩)) ∧ (iz = 1 → vz = .slice (some ⟨lb, lo, none⟩) x.facts.length gc) ∧ (iz = 2 → vz = .int .i64 (k : Int)) ∧ (iz = 3 → vz = .pointer (some ⟨lb, lo + k * 2, none⟩)) ∧ (iz = 4 → vz = .agg #[.string u.name, .slice l0 u.args.length l1]) ∧ (iz = 5 → vz = .pointer (some ⟨w.heap.size + 1, 1, none⟩)) ∧ (iz = 6 → vz = .slice (some ⟨mb, mo, none⟩) y.facts.length jc) ∧ (iz = 7 → vz = .int .i64 (k : Int)) ∧ (iz = 8 → vz = .pointer (some ⟨mb, mo + k * 2, none⟩)) ∧ (iz = 9 → vz = .agg #[.string v.name, .slice m0 v.args.length m1]) ∧ (iz = 10 → vz = .bool b) ∧ (iz = 11 → vz = .bool (!b))) (fun w' => Below wr.heap.size wr w') (Below.drew (Below.refl _ _)) ⟨?s0, ?s1, ?s2, ?s3, ?s4, ?s5, ?s6, ?s7, ?s8, ?s9, ?s10, ?s11, trivial⟩ ?fin
        case s0 =>
         intro a w' hoff hg hdep K hK
         have h2 := off_at hoff 2 (v := .pointer (some ⟨w.heap.size, 0, none⟩)) (by kernel_rfl) rfl
         rw [if_pos (by rfl)]
         go_simp
         exact hK.out _ _ hg ⟨fun _ => rfl, nn,nn,nn,nn,nn,nn,nn,nn,nn,nn,nn⟩ (fun _ _ h => h)
        case s1 =>
         intro a w' hoff hg hdep K hK
         obtain ⟨v0, e0, f0⟩ := hdep 0 _ 58 (by kernel_rfl) rfl rfl
         obtain rfl := (f0.1 rfl).symm
         rw [if_pos (by rfl)]
         obtain ⟨t0, t1, t2⟩ := (XR.out.on hg).cells; obtain ⟨r0, r1, r2⟩ := (YR.out.on hg).cells; rw [HGA.out] at t1; rw [HGB.out] at r1; have q0 := (hg.cell (p := ⟨lb, lo + k * 2, none⟩) HLB.out).trans Q0.out; have q1 := (hg.cell (p := ⟨lb, lo + k * 2 + 1, none⟩) HLB.out).trans Q1.out; have p0 := (hg.cell (p := ⟨mb, mo + k * 2, none⟩) HMB.out).trans P0.out; have p1 := (hg.cell (p := ⟨mb, mo + k * 2 + 1, none⟩) HMB.out).trans P1.out
         go_simp
         exact hK.out _ _ hg ⟨nn, fun _ => rfl, nn,nn,nn,nn,nn,nn,nn,nn,nn,nn⟩ (fun _ _ h => h)
        case s2 =>
         intro a w' hoff hg hdep K hK
         have h6 := off_at hoff 6 (v := .int .i64 (k : Int)) (by kernel_rfl) rfl
         rw [if_pos (by rfl)]
         go_simp
         exact hK.out _ _ hg ⟨nn,nn, fun _ => rfl, nn,nn,nn,nn,nn,nn,nn,nn,nn⟩ (fun _ _ h => h)
        case s3 =>
         intro a w' hoff hg hdep K hK
         obtain ⟨v1, e1, f1⟩ := hdep 1 _ 59 (by kernel_rfl) rfl rfl
         obtain rfl := (f1.2.1 rfl).symm
         obtain ⟨v2, e2, f2⟩ := hdep 2 _ 60 (by kernel_rfl) rfl rfl
         obtain rfl := (f2.2.2.1 rfl).symm
         rw [if_pos (by rfl)]
         have hk1 := HK1.out; have hk2 := HK2.out
         go_simp
         exact hK.out _ _ hg ⟨nn,nn,nn, fun _ => rfl, nn,nn,nn,nn,nn,nn,nn,nn⟩ (fun _ _ h => h)
        case s4 =>
         intro a w' hoff hg hdep K hK
         obtain ⟨v3, e3, f3⟩ := hdep 3 _ 61 (by kernel_rfl) rfl rfl
         obtain rfl := (f3.2.2.2.1 rfl).symm
         rw [if_pos (by rfl)]
         obtain ⟨t0, t1, t2⟩ := (XR.out.on hg).cells; obtain ⟨r0, r1, r2⟩ := (YR.out.on hg).cells; rw [HGA.out] at t1; rw [HGB.out] at r1; have q0 := (hg.cell (p := ⟨lb, lo + k * 2, none⟩) HLB.out).trans Q0.out; have q1 := (hg.cell (p := ⟨lb, lo + k * 2 + 1, none⟩) HLB.out).trans Q1.out; have p0 := (hg.cell (p := ⟨mb, mo + k * 2, none⟩) HMB.out).trans P0.out; have p1 := (hg.cell (p := ⟨mb, mo + k * 2 + 1, none⟩) HMB.out).trans P1.out
         go_simp
         exact hK.out _ _ hg ⟨nn,nn,nn,nn, fun _ => rfl, nn,nn,nn,nn,nn,nn,nn⟩ (fun _ _ h => h)
        case s5 =>
         intro a w' hoff hg hdep K hK
         have h3 := off_at hoff 3 (v := .pointer (some ⟨w.heap.size + 1, 0, none⟩)) (by kernel_rfl) rfl
         rw [if_pos (by rfl)]
         go_simp
         exact hK.out _ _ hg ⟨nn,nn,nn,nn,nn, fun _ => rfl, nn,nn,nn,nn,nn,nn⟩ (fun _ _ h => h)
        case s6 =>
         intro a w' hoff hg hdep K hK
         obtain ⟨v5, e5, f5⟩ := hdep 5 _ 63 (by kernel_rfl) rfl rfl
         obtain rfl := (f5.2.2.2.2.2.1 rfl).symm
         rw [if_pos (by rfl)]
         obtain ⟨t0, t1, t2⟩ := (XR.out.on hg).cells; obtain ⟨r0, r1, r2⟩ := (YR.out.on hg).cells; rw [HGA.out] at t1; rw [HGB.out] at r1; have q0 := (hg.cell (p := ⟨lb, lo + k * 2, none⟩) HLB.out).trans Q0.out; have q1 := (hg.cell (p := ⟨lb, lo + k * 2 + 1, none⟩) HLB.out).trans Q1.out; have p0 := (hg.cell (p := ⟨mb, mo + k * 2, none⟩) HMB.out).trans P0.out; have p1 := (hg.cell (p := ⟨mb, mo + k * 2 + 1, none⟩) HMB.out).trans P1.out
         go_simp
         exact hK.out _ _ hg ⟨nn,nn,nn,nn,nn,nn, fun _ => rfl, nn,nn,nn,nn,nn⟩ (fun _ _ h => h)
        case s7 =>
         intro a w' hoff hg hdep K hK
         have h6 := off_at hoff 6 (v := .int .i64 (k : Int)) (by kernel_rfl) rfl
         rw [if_pos (by rfl)]
         go_simp
         exact hK.out _ _ hg ⟨nn,nn,nn,nn,nn,nn,nn, fun _ => rfl, nn,nn,nn,nn⟩ (fun _ _ h => h)
        case s8 =>
         intro a w' hoff hg hdep K hK
         obtain ⟨v6, e6, f6⟩ := hdep 6 _ 64 (by kernel_rfl) rfl rfl
         obtain rfl := (f6.2.2.2.2.2.2.1 rfl).symm
         obtain ⟨v7, e7, f7⟩ := hdep 7 _ 65 (by kernel_rfl) rfl rfl
         obtain rfl := (f7.2.2.2.2.2.2.2.1 rfl).symm
         rw [if_pos (by rfl)]
         have hk1 := HK1.out; have hk3 := HK3.out
         go_simp
         exact hK.out _ _ hg ⟨nn,nn,nn,nn,nn,nn,nn,nn, fun _ => rfl, nn,nn,nn⟩ (fun _ _ h => h)
        case s9 =>
         intro a w' hoff hg hdep K hK
         obtain ⟨v8, e8, f8⟩ := hdep 8 _ 66 (by kernel_rfl) rfl rfl
         obtain rfl := (f8.2.2.2.2.2.2.2.2.1 rfl).symm
         rw [if_pos (by rfl)]
         obtain ⟨t0, t1, t2⟩ := (XR.out.on hg).cells; obtain ⟨r0, r1, r2⟩ := (YR.out.on hg).cells; rw [HGA.out] at t1; rw [HGB.out] at r1; have q0 := (hg.cell (p := ⟨lb, lo + k * 2, none⟩) HLB.out).trans Q0.out; have q1 := (hg.cell (p := ⟨lb, lo + k * 2 + 1, none⟩) HLB.out).trans Q1.out; have p0 := (hg.cell (p := ⟨mb, mo + k * 2, none⟩) HMB.out).trans P0.out; have p1 := (hg.cell (p := ⟨mb, mo + k * 2 + 1, none⟩) HMB.out).trans P1.out
         go_simp
         exact hK.out _ _ hg ⟨nn,nn,nn,nn,nn,nn,nn,nn,nn, fun _ => rfl, nn,nn⟩ (fun _ _ h => h)
        case s10 =>
         intro a w' hoff hg hdep K hK
         obtain ⟨v4, e4, f4⟩ := hdep 4 _ 62 (by kernel_rfl) rfl rfl
         obtain rfl := (f4.2.2.2.2.1 rfl).symm
         obtain ⟨v9, e9, f9⟩ := hdep 9 _ 67 (by kernel_rfl) rfl rfl
         obtain rfl := (f9.2.2.2.2.2.2.2.2.2.1 rfl).symm
         rw [if_pos (by rfl)]
         go_simp
         refine (sameFa_any u v S _ _ _ _ _ (fun j hj => Nat.lt_of_lt_of_le (HSR.out j hj) hg.size) (RepFa.on (fun _ h => h) (fun j hj => hg.block j (HSR.out j hj)) GU.out) (RepFa.on (fun _ h => h) (fun j hj => hg.block j (HSR.out j hj)) GV.out)).mono ?_
         rw [HB.out]
         rintro e w2' ⟨rfl, hb⟩
         exact hK.out _ _ (Below.step hg hb) ⟨nn,nn,nn,nn,nn,nn,nn,nn,nn,nn, fun _ => rfl, nn⟩ (fun _ _ h => ⟨h.1, h.2.1, h.2.2.1, h.2.2.2.1, h.2.2.2.2.1, h.2.2.2.2.2.1, h.2.2.2.2.2.2.1, h.2.2.2.2.2.2.2.1, h.2.2.2.2.2.2.2.2.1, h.2.2.2.2.2.2.2.2.2.1, h.2.2.2.2.2.2.2.2.2.2.1, h.2.2.2.2.2.2.2.2.2.2.2⟩)
        case s11 =>
         intro a w' hoff hg hdep K hK
         obtain ⟨v10, e10, f10⟩ := hdep 10 _ 68 (by kernel_rfl) rfl rfl
         obtain rfl := (f10.2.2.2.2.2.2.2.2.2.2.1 rfl).symm
         rw [if_pos (by rfl)]
         go_simp
         exact hK.out _ _ hg ⟨nn,nn,nn,nn,nn,nn,nn,nn,nn,nn,nn, fun _ => rfl⟩ (fun _ _ h => h)
        case fin =>
         intro a w9 hoff hg hf
         obtain ⟨v0, e0, f0⟩ := hf 0 _ 58 rfl rfl
         obtain rfl := (f0.1 rfl).symm
         obtain ⟨v1, e1, f1⟩ := hf 1 _ 59 rfl rfl
         obtain rfl := (f1.2.1 rfl).symm
         obtain ⟨v2, e2, f2⟩ := hf 2 _ 60 rfl rfl
         obtain rfl := (f2.2.2.1 rfl).symm
         obtain ⟨v3, e3, f3⟩ := hf 3 _ 61 rfl rfl
         obtain rfl := (f3.2.2.2.1 rfl).symm
         obtain ⟨v4, e4, f4⟩ := hf 4 _ 62 rfl rfl
         obtain rfl := (f4.2.2.2.2.1 rfl).symm
         obtain ⟨v5, e5, f5⟩ := hf 5 _ 63 rfl rfl
         obtain rfl := (f5.2.2.2.2.2.1 rfl).symm
         obtain ⟨v6, e6, f6⟩ := hf 6 _ 64 rfl rfl
         obtain rfl := (f6.2.2.2.2.2.2.1 rfl).symm
         obtain ⟨v7, e7, f7⟩ := hf 7 _ 65 rfl rfl
         obtain rfl := (f7.2.2.2.2.2.2.2.1 rfl).symm
         obtain ⟨v8, e8, f8⟩ := hf 8 _ 66 rfl rfl
         obtain rfl := (f8.2.2.2.2.2.2.2.2.1 rfl).symm
         obtain ⟨v9, e9, f9⟩ := hf 9 _ 67 rfl rfl
         obtain rfl := (f9.2.2.2.2.2.2.2.2.2.1 rfl).symm
         obtain ⟨v10, e10, f10⟩ := hf 10 _ 68 rfl rfl
         obtain rfl := (f10.2.2.2.2.2.2.2.2.2.2.1 rfl).symm
         obtain ⟨v11, e11, f11⟩ := hf 11 _ 69 rfl rfl
         obtain rfl := (f11.2.2.2.2.2.2.2.2.2.2.2 rfl).symm
         rw [hoff.sets [(58, .pointer (some ⟨w.heap.size, 1, none⟩)), (59, .slice (some ⟨lb, lo, none⟩) x.facts.length gc), (60, .int .i64 (k : Int)), (61, .pointer (some ⟨lb, lo + k * 2, none⟩)), (62, .agg #[.string u.name, .slice l0 u.args.length l1]), (63, .pointer (some ⟨w.heap.size + 1, 1, none⟩)), (64, .slice (some ⟨mb, mo, none⟩) y.facts.length jc), (65, .int .i64 (k : Int)), (66, .pointer (some ⟨mb, mo + k * 2, none⟩)), (67, .agg #[.string v.name, .slice m0 v.args.length m1]), (68, .bool b), (69, .bool (!b))] (by kernel_rfl) (by intro p hp; simp only [List.mem_cons, List.not_mem_nil, or_false] at hp; rcases hp with rfl | rfl | rfl | rfl | rfl | rfl | rfl | rfl | rfl | rfl | rfl | rfl <;> assumption)]
         clear hoff hf e0 f0 e1 f1 e2 f2 e3 f3 e4 f4 e5 f5 e6 f6 e7 f7 e8 f8 e9 f9 e10 f10 e11 f11
         simp only [List.foldl_cons, List.foldl_nil, List.setIfInBounds_toArray, List.set_cons_zero, List.set_cons_succ]
         have B9 := Lib.hid (Below.step BR.out hg); have H9 := Lib.hid (Below.step HBEL.out hg)
         clear hg
         cases b with
         | false =>
          have HF : Hid (eqB (x = y) = false) := by
           show _ = _
           exact eqB_false (fun e => not_eqB HB.out (HDR.out.1 (HREC.out.1 (HEX.out.1 e).2.1)).1)
          go_wp2_with fail
          go_ret
          exact ⟨retB HF.out.symm, B9.out⟩
         | true =>
          have HNX : Hid (x.facts = y.facts ↔ x.facts.drop (k + 1) = y.facts.drop (k + 1)) := by
           show _ ↔ _
           rw [HREC.out, HDR.out]
           exact ⟨fun h => h.2, fun h => ⟨of_eqB HB.out, h⟩⟩
          go_wp2_with fail
          go_roundw
          case rel => exact ⟨k + 1, HKL.out, (by have := HKL.out; have := HLX.out; rw [show wrap64 ((k : Int) + 1) = ((k + 1 : Nat) : Int) by unfold wrap64; omega]), HNX.out, H9.out⟩
          case measure => exact measure_up HKL.out HLX.out.2.1
       ·have HE1 : Hid (x.facts = y.facts) := by
         show _ = _
         rw [HREC.out, List.drop_of_length_le (by omega), List.drop_of_length_le (by have := HN1.out; omega)]
        have hkl2 : ¬ ((k : Int) < (x.facts.length : Int)) := by omega
        have B3 := BR; have X3 := XR; have Y3 := YR
        clear HREC HBEL XR YR BR hbel hl hkl
        generalize wr = w3 at *
        go_wp2_with fail
        clear hkl2 p0 p1 p2
        go_loopw [7] (fun iv wr => ∃ k : Nat, k ≤ x.rules.length ∧ iv = .int .i64 k ∧ Hid (x.rules = y.rules ↔ x.rules.drop k = y.rules.drop k) ∧ Below w3.heap.size w3 wr) (fun iv _ => x.rules.length - (intOf iv).toNat)
        case atStart => exact ⟨0, Nat.zero_le _, rfl, Iff.rfl, Below.refl _ _⟩
        case round =>
         obtain ⟨k, hkl, rfl, hrec, hbel⟩ := hrel
         have HREC := hrec; have HBEL := Lib.hid hbel
         have XR := Lib.hid (X3.out.on hbel); have YR := Lib.hid (Y3.out.on hbel); have BR := Lib.hid (Below.step B3.out hbel)
         clear hrec
         obtain ⟨p0, p1, p2⟩ := XR.out.cells
         by_cases hl : k < x.rules.length
         ·have hm : k < y.rules.length := by have := HN2.out; omega
          have hA := (RepRus.on (fun _ h => h) (fun j hj => BR.out.block j (HS.out j hj)) HX.out.2.2 : RepRus S wr x.rules (.slice ha x.rules.length hc))
          have hB := (RepRus.on (fun _ h => h) (fun j hj => BR.out.block j (HS.out j hj)) HY.out.2.2 : RepRus S wr y.rules (.slice ka y.rules.length kc))
          obtain ⟨-, -, lb, lo, l0, l1, l2, l3, hga, hSl, q0, q1, q2, q3, q4, q5, gx⟩ := RepRus.at hA k hl
          obtain ⟨-, -, mb, mo, m0, m1, m2, m3, hgb, hSm, p0, p1, p2, p3, p4, p5, gy⟩ := RepRus.at hB k hm
          have HGA := Lib.hid hga; have HGB := Lib.hid hgb
          have HSR := Lib.hid (fun j (hj : S j) => Nat.lt_of_lt_of_le (HS.out j hj) BR.out.size)
          have HLB := Lib.hid (HSR.out lb hSl); have HMB := Lib.hid (HSR.out mb hSm)
          have Q0 := Lib.hid q0; have Q1 := Lib.hid q1; have Q2 := Lib.hid q2; have Q3 := Lib.hid q3; have Q4 := Lib.hid q4; have Q5 := Lib.hid q5
          have P0 := Lib.hid p0; have P1 := Lib.hid p1; have P2 := Lib.hid p2; have P3 := Lib.hid p3; have P4 := Lib.hid p4; have P5 := Lib.hid p5
          have GU := Lib.hid gx; have GV := Lib.hid gy
          have HK1 : Hid ((0 : Int) ≤ (k : Int)) := Int.natCast_nonneg k
          have HK2 : Hid ((k : Int) < (x.rules.length : Int)) := by show _ < _; omega
          have HK3 : Hid ((k : Int) < (y.rules.length : Int)) := by show _ < _; omega
          have HKL : Hid (k < x.rules.length) := hl
          have HDR := Lib.hid (drop_cons hl hm)
          clear hA hB hga hgb q0 q1 q2 q3 q4 q5 p0 p1 p2 p3 p4 p5 gx gy hSl hSm hbel
          generalize x.rules[k] = u at *
          generalize y.rules[k] = v at *
          obtain ⟨b, hb⟩ : ∃ b, eqB (u = v) = b := ⟨_, rfl⟩
          have HB := Lib.hid hb
          clear hb
          obtain ⟨p0, p1, p2⟩ := XR.out.cells
          go_wp2_with fail
          clear p0 p1 p2
          refine wp_region_factsG (by rfl) 89 (by rfl) (by kernel_rfl) (fun wz iz vz => (iz = 0 → vz = .pointer (some ⟨w.heap.size, 2, none⟩)) ∧ (iz = 1 → vz = .slice (some ⟨lb, lo, none⟩) x.rules.length hc) ∧ (iz = 2 → vz = .int .i64 (k : Int)) ∧ (iz = 3 → vz = .pointer (some ⟨lb, lo + k * 6, none⟩)) ∧ (iz = 4 → vz = .agg #[.string u.label, .string u.head, .slice l0 u.args.length l1, .string u.agg, .int .i64 u.at', .slice l2 u.body.length l3]) ∧ (iz = 5 → vz = .pointer (some ⟨w.heap.size + 1, 2, none⟩)) ∧ (iz = 6 → vz = .slice (some ⟨mb, mo, none⟩) y.rules.length kc) ∧ (iz = 7 → vz = .int .i64 (k : Int)) ∧ (iz = 8 → vz = .pointer (some ⟨mb, mo + k * 6, none⟩)) ∧ (iz = 9 → vz = .agg #[.string v.label, .string v.head, .slice m0 v.args.length m1, .string v.agg, .int .i64 v.at', .slice m2 v.body.length m3]) ∧ (iz = 10 → vz = .bool b) ∧ (iz = 11 → vz = .bool (!b))) (fun w' => Below wr.heap.size wr w') (Below.drew (Below.refl _ _)) ⟨?s0, ?s1, ?s2, ?s3, ?s4, ?s5, ?s6, ?s7, ?s8, ?s9, ?s10, ?s11, trivial⟩ ?fin
          case s0 =>
           intro a w' hoff hg hdep K hK
           have h2 := off_at hoff 2 (v := .pointer (some ⟨w.heap.size, 0, none⟩)) (by kernel_rfl) rfl
           rw [if_pos (by rfl)]
           go_simp
           exact hK.out _ _ hg ⟨fun _ => rfl, nn,nn,nn,nn,nn,nn,nn,nn,nn,nn,nn⟩ (fun _ _ h => h)
          case s1 =>
           intro a w' hoff hg hdep K hK
           obtain ⟨v0, e0, f0⟩ := hdep 0 _ 77 (by kernel_rfl) rfl rfl
           obtain rfl := (f0.1 rfl).symm
           rw [if_pos (by rfl)]
           obtain ⟨t0, t1, t2⟩ := (XR.out.on hg).cells; obtain ⟨r0, r1, r2⟩ := (YR.out.on hg).cells; rw [HGA.out] at t2; rw [HGB.out] at r2; have q0 := (hg.cell (p := ⟨lb, lo + k * 6, none⟩) HLB.out).trans Q0.out; have q1 := (hg.cell (p := ⟨lb, lo + k * 6 + 1, none⟩) HLB.out).trans Q1.out; have q2 := (hg.cell (p := ⟨lb, lo + k * 6 + 2, none⟩) HLB.out).trans Q2.out; have q3 := (hg.cell (p := ⟨lb, lo + k * 6 + 3, none⟩) HLB.out).trans Q3.out; have q4 := (hg.cell (p := ⟨lb, lo + k * 6 + 4, none⟩) HLB.out).trans Q4.out; have q5 := (hg.cell (p := ⟨lb, lo + k * 6 + 5, none⟩) HLB.out).trans Q5.out; have p0 := (hg.cell (p := ⟨mb, mo + k * 6, none⟩) HMB.out).trans P0.out; have p1 := (hg.cell (p := ⟨mb, mo + k * 6 + 1, none⟩) HMB.out).trans P1.out; have p2 := (hg.cell (p := ⟨mb, mo + k * 6 + 2, none⟩) HMB.out).trans P2.out; have p3 := (hg.cell (p := ⟨mb, mo + k * 6 + 3, none⟩) HMB.out).trans P3.out; have p4 := (hg.cell (p := ⟨mb, mo + k * 6 + 4, none⟩) HMB.out).trans P4.out; have p5 := (hg.cell (p := ⟨mb, mo + k * 6 + 5, none⟩) HMB.out).trans P5.out
           go_simp
           exact hK.out _ _ hg ⟨nn, fun _ => rfl, nn,nn,nn,nn,nn,nn,nn,nn,nn,nn⟩ (fun _ _ h => h)
          case s2 =>
           intro a w' hoff hg hdep K hK
           have h7 := off_at hoff 7 (v := .int .i64 (k : Int)) (by kernel_rfl) rfl
           rw [if_pos (by rfl)]
           go_simp
           exact hK.out _ _ hg ⟨nn,nn, fun _ => rfl, nn,nn,nn,nn,nn,nn,nn,nn,nn⟩ (fun _ _ h => h)
          case s3 =>
           intro a w' hoff hg hdep K hK
           obtain ⟨v1, e1, f1⟩ := hdep 1 _ 78 (by kernel_rfl) rfl rfl
           obtain rfl := (f1.2.1 rfl).symm
           obtain ⟨v2, e2, f2⟩ := hdep 2 _ 79 (by kernel_rfl) rfl rfl
           obtain rfl := (f2.2.2.1 rfl).symm
           rw [if_pos (by rfl)]
           have hk1 := HK1.out; have hk2 := HK2.out
           go_simp
           exact hK.out _ _ hg ⟨nn,nn,nn, fun _ => rfl, nn,nn,nn,nn,nn,nn,nn,nn⟩ (fun _ _ h => h)
          case s4 =>
           intro a w' hoff hg hdep K hK
           obtain ⟨v3, e3, f3⟩ := hdep 3 _ 80 (by kernel_rfl) rfl rfl
           obtain rfl := (f3.2.2.2.1 rfl).symm
           rw [if_pos (by rfl)]
           obtain ⟨t0, t1, t2⟩ := (XR.out.on hg).cells; obtain ⟨r0, r1, r2⟩ := (YR.out.on hg).cells; rw [HGA.out] at t2; rw [HGB.out] at r2; have q0 := (hg.cell (p := ⟨lb, lo + k * 6, none⟩) HLB.out).trans Q0.out; have q1 := (hg.cell (p := ⟨lb, lo + k * 6 + 1, none⟩) HLB.out).trans Q1.out; have q2 := (hg.cell (p := ⟨lb, lo + k * 6 + 2, none⟩) HLB.out).trans Q2.out; have q3 := (hg.cell (p := ⟨lb, lo + k * 6 + 3, none⟩) HLB.out).trans Q3.out; have q4 := (hg.cell (p := ⟨lb, lo + k * 6 + 4, none⟩) HLB.out).trans Q4.out; have q5 := (hg.cell (p := ⟨lb, lo + k * 6 + 5, none⟩) HLB.out).trans Q5.out; have p0 := (hg.cell (p := ⟨mb, mo + k * 6, none⟩) HMB.out).trans P0.out; have p1 := (hg.cell (p := ⟨mb, mo + k * 6 + 1, none⟩) HMB.out).trans P1.out; have p2 := (hg.cell (p := ⟨mb, mo + k * 6 + 2, none⟩) HMB.out).trans P2.out; have p3 := (hg.cell (p := ⟨mb, mo + k * 6 + 3, none⟩) HMB.out).trans P3.out; have p4 := (hg.cell (p := ⟨mb, mo + k * 6 + 4, none⟩) HMB.out).trans P4.out; have p5 := (hg.cell (p := ⟨mb, mo + k * 6 + 5, none⟩) HMB.out).trans P5.out
           go_simp
           exact hK.out _ _ hg ⟨nn,nn,nn,nn, fun _ => rfl, nn,nn,nn,nn,nn,nn,nn⟩ (fun _ _ h => h)
          case s5 =>
           intro a w' hoff hg hdep K hK
           have h3 := off_at hoff 3 (v := .pointer (some ⟨w.heap.size + 1, 0, none⟩)) (by kernel_rfl) rfl
           rw [if_pos (by rfl)]
           go_simp
           exact hK.out _ _ hg ⟨nn,nn,nn,nn,nn, fun _ => rfl, nn,nn,nn,nn,nn,nn⟩ (fun _ _ h => h)
          case s6 =>
           intro a w' hoff hg hdep K hK
           obtain ⟨v5, e5, f5⟩ := hdep 5 _ 82 (by kernel_rfl) rfl rfl
           obtain rfl := (f5.2.2.2.2.2.1 rfl).symm
           rw [if_pos (by rfl)]
           obtain ⟨t0, t1, t2⟩ := (XR.out.on hg).cells; obtain ⟨r0, r1, r2⟩ := (YR.out.on hg).cells; rw [HGA.out] at t2; rw [HGB.out] at r2; have q0 := (hg.cell (p := ⟨lb, lo + k * 6, none⟩) HLB.out).trans Q0.out; have q1 := (hg.cell (p := ⟨lb, lo + k * 6 + 1, none⟩) HLB.out).trans Q1.out; have q2 := (hg.cell (p := ⟨lb, lo + k * 6 + 2, none⟩) HLB.out).trans Q2.out; have q3 := (hg.cell (p := ⟨lb, lo + k * 6 + 3, none⟩) HLB.out).trans Q3.out; have q4 := (hg.cell (p := ⟨lb, lo + k * 6 + 4, none⟩) HLB.out).trans Q4.out; have q5 := (hg.cell (p := ⟨lb, lo + k * 6 + 5, none⟩) HLB.out).trans Q5.out; have p0 := (hg.cell (p := ⟨mb, mo + k * 6, none⟩) HMB.out).trans P0.out; have p1 := (hg.cell (p := ⟨mb, mo + k * 6 + 1, none⟩) HMB.out).trans P1.out; have p2 := (hg.cell (p := ⟨mb, mo + k * 6 + 2, none⟩) HMB.out).trans P2.out; have p3 := (hg.cell (p := ⟨mb, mo + k * 6 + 3, none⟩) HMB.out).trans P3.out; have p4 := (hg.cell (p := ⟨mb, mo + k * 6 + 4, none⟩) HMB.out).trans P4.out; have p5 := (hg.cell (p := ⟨mb, mo + k * 6 + 5, none⟩) HMB.out).trans P5.out
           go_simp
           exact hK.out _ _ hg ⟨nn,nn,nn,nn,nn,nn, fun _ => rfl, nn,nn,nn,nn,nn⟩ (fun _ _ h => h)
          case s7 =>
           intro a w' hoff hg hdep K hK
           have h7 := off_at hoff 7 (v := .int .i64 (k : Int)) (by kernel_rfl) rfl
           rw [if_pos (by rfl)]
           go_simp
           exact hK.out _ _ hg ⟨nn,nn,nn,nn,nn,nn,nn, fun _ => rfl, nn,nn,nn,nn⟩ (fun _ _ h => h)
          case s8 =>
           intro a w' hoff hg hdep K hK
           obtain ⟨v6, e6, f6⟩ := hdep 6 _ 83 (by kernel_rfl) rfl rfl
           obtain rfl := (f6.2.2.2.2.2.2.1 rfl).symm
           obtain ⟨v7, e7, f7⟩ := hdep 7 _ 84 (by kernel_rfl) rfl rfl
           obtain rfl := (f7.2.2.2.2.2.2.2.1 rfl).symm
           rw [if_pos (by rfl)]
           have hk1 := HK1.out; have hk3 := HK3.out
           go_simp
           exact hK.out _ _ hg ⟨nn,nn,nn,nn,nn,nn,nn,nn, fun _ => rfl, nn,nn,nn⟩ (fun _ _ h => h)
          case s9 =>
           intro a w' hoff hg hdep K hK
           obtain ⟨v8, e8, f8⟩ := hdep 8 _ 85 (by kernel_rfl) rfl rfl
           obtain rfl := (f8.2.2.2.2.2.2.2.2.1 rfl).symm
           rw [if_pos (by rfl)]
           obtain ⟨t0, t1, t2⟩ := (XR.out.on hg).cells; obtain ⟨r0, r1, r2⟩ := (YR.out.on hg).cells; rw [HGA.out] at t2; rw [HGB.out] at r2; have q0 := (hg.cell (p := ⟨lb, lo + k * 6, none⟩) HLB.out).trans Q0.out; have q1 := (hg.cell (p := ⟨lb, lo + k * 6 + 1, none⟩) HLB.out).trans Q1.out; have q2 := (hg.cell (p := ⟨lb, lo + k * 6 + 2, none⟩) HLB.out).trans Q2.out; have q3 := (hg.cell (p := ⟨lb, lo + k * 6 + 3, none⟩) HLB.out).trans Q3.out; have q4 := (hg.cell (p := ⟨lb, lo + k * 6 + 4, none⟩) HLB.out).trans Q4.out; have q5 := (hg.cell (p := ⟨lb, lo + k * 6 + 5, none⟩) HLB.out).trans Q5.out; have p0 := (hg.cell (p := ⟨mb, mo + k * 6, none⟩) HMB.out).trans P0.out; have p1 := (hg.cell (p := ⟨mb, mo + k * 6 + 1, none⟩) HMB.out).trans P1.out; have p2 := (hg.cell (p := ⟨mb, mo + k * 6 + 2, none⟩) HMB.out).trans P2.out; have p3 := (hg.cell (p := ⟨mb, mo + k * 6 + 3, none⟩) HMB.out).trans P3.out; have p4 := (hg.cell (p := ⟨mb, mo + k * 6 + 4, none⟩) HMB.out).trans P4.out; have p5 := (hg.cell (p := ⟨mb, mo + k * 6 + 5, none⟩) HMB.out).trans P5.out
           go_simp
           exact hK.out _ _ hg ⟨nn,nn,nn,nn,nn,nn,nn,nn,nn, fun _ => rfl, nn,nn⟩ (fun _ _ h => h)
          case s10 =>
           intro a w' hoff hg hdep K hK
           obtain ⟨v4, e4, f4⟩ := hdep 4 _ 81 (by kernel_rfl) rfl rfl
           obtain rfl := (f4.2.2.2.2.1 rfl).symm
           obtain ⟨v9, e9, f9⟩ := hdep 9 _ 86 (by kernel_rfl) rfl rfl
           obtain rfl := (f9.2.2.2.2.2.2.2.2.2.1 rfl).symm
           rw [if_pos (by rfl)]
           go_simp
           refine (sameRu_any u v S _ _ _ _ _ _ _ _ _ _ _ _ _ (fun j hj => Nat.lt_of_lt_of_le (HSR.out j hj) hg.size) (RepRu.on (fun _ h => h) (fun j hj => hg.block j (HSR.out j hj)) GU.out) (RepRu.on (fun _ h => h) (fun j hj => hg.block j (HSR.out j hj)) GV.out)).mono ?_
           rw [HB.out]
           rintro e w2' ⟨rfl, hb⟩
           exact hK.out _ _ (Below.step hg hb) ⟨nn,nn,nn,nn,nn,nn,nn,nn,nn,nn, fun _ => rfl, nn⟩ (fun _ _ h => ⟨h.1, h.2.1, h.2.2.1, h.2.2.2.1, h.2.2.2.2.1, h.2.2.2.2.2.1, h.2.2.2.2.2.2.1, h.2.2.2.2.2.2.2.1, h.2.2.2.2.2.2.2.2.1, h.2.2.2.2.2.2.2.2.2.1, h.2.2.2.2.2.2.2.2.2.2.1, h.2.2.2.2.2.2.2.2.2.2.2⟩)
          case s11 =>
           intro a w' hoff hg hdep K hK
           obtain ⟨v10, e10, f10⟩ := hdep 10 _ 87 (by kernel_rfl) rfl rfl
           obtain rfl := (f10.2.2.2.2.2.2.2.2.2.2.1 rfl).symm
           rw [if_pos (by rfl)]
           go_simp
           exact hK.out _ _ hg ⟨nn,nn,nn,nn,nn,nn,nn,nn,nn,nn,nn, fun _ => rfl⟩ (fun _ _ h => h)
          case fin =>
           intro a w9 hoff hg hf
           obtain ⟨v0, e0, f0⟩ := hf 0 _ 77 rfl rfl
           obtain rfl := (f0.1 rfl).symm
           obtain ⟨v1, e1, f1⟩ := hf 1 _ 78 rfl rfl
           obtain rfl := (f1.2.1 rfl).symm
           obtain ⟨v2, e2, f2⟩ := hf 2 _ 79 rfl rfl
           obtain rfl := (f2.2.2.1 rfl).symm
           obtain ⟨v3, e3, f3⟩ := hf 3 _ 80 rfl rfl
           obtain rfl := (f3.2.2.2.1 rfl).symm
           obtain ⟨v4, e4, f4⟩ := hf 4 _ 81 rfl rfl
           obtain rfl := (f4.2.2.2.2.1 rfl).symm
           obtain ⟨v5, e5, f5⟩ := hf 5 _ 82 rfl rfl
           obtain rfl := (f5.2.2.2.2.2.1 rfl).symm
           obtain ⟨v6, e6, f6⟩ := hf 6 _ 83 rfl rfl
           obtain rfl := (f6.2.2.2.2.2.2.1 rfl).symm
           obtain ⟨v7, e7, f7⟩ := hf 7 _ 84 rfl rfl
           obtain rfl := (f7.2.2.2.2.2.2.2.1 rfl).symm
           obtain ⟨v8, e8, f8⟩ := hf 8 _ 85 rfl rfl
           obtain rfl := (f8.2.2.2.2.2.2.2.2.1 rfl).symm
           obtain ⟨v9, e9, f9⟩ := hf 9 _ 86 rfl rfl
           obtain rfl := (f9.2.2.2.2.2.2.2.2.2.1 rfl).symm
           obtain ⟨v10, e10, f10⟩ := hf 10 _ 87 rfl rfl
           obtain rfl := (f10.2.2.2.2.2.2.2.2.2.2.1 rfl).symm
           obtain ⟨v11, e11, f11⟩ := hf 11 _ 88 rfl rfl
           obtain rfl := (f11.2.2.2.2.2.2.2.2.2.2.2 rfl).symm
           rw [hoff.sets [(77, .pointer (some ⟨w.heap.size, 2, none⟩)), (78, .slice (some ⟨lb, lo, none⟩) x.rules.length hc), (79, .int .i64 (k : Int)), (80, .pointer (some ⟨lb, lo + k * 6, none⟩)), (81, .agg #[.string u.label, .string u.head, .slice l0 u.args.length l1, .string u.agg, .int .i64 u.at', .slice l2 u.body.length l3]), (82, .pointer (some ⟨w.heap.size + 1, 2, none⟩)), (83, .slice (some ⟨mb, mo, none⟩) y.rules.length kc), (84, .int .i64 (k : Int)), (85, .pointer (some ⟨mb, mo + k * 6, none⟩)), (86, .agg #[.string v.label, .string v.head, .slice m0 v.args.length m1, .string v.agg, .int .i64 v.at', .slice m2 v.body.length m3]), (87, .bool b), (88, .bool (!b))] (by kernel_rfl) (by intro p hp; simp only [List.mem_cons, List.not_mem_nil, or_false] at hp; rcases hp with rfl | rfl | rfl | rfl | rfl | rfl | rfl | rfl | rfl | rfl | rfl | rfl <;> assumption)]
           clear hoff hf e0 f0 e1 f1 e2 f2 e3 f3 e4 f4 e5 f5 e6 f6 e7 f7 e8 f8 e9 f9 e10 f10 e11 f11
           simp only [List.foldl_cons, List.foldl_nil, List.setIfInBounds_toArray, List.set_cons_zero, List.set_cons_succ]
           have B9 := Lib.hid (Below.step BR.out hg); have H9 := Lib.hid (Below.step HBEL.out hg)
           clear hg
           cases b with
           | false =>
            have HF : Hid (eqB (x = y) = false) := by
             show _ = _
             exact eqB_false (fun e => not_eqB HB.out (HDR.out.1 (HREC.out.1 (HEX.out.1 e).2.2)).1)
            go_wp2_with fail
            go_ret
            exact ⟨retB HF.out.symm, B9.out⟩
           | true =>
            have HNX : Hid (x.rules = y.rules ↔ x.rules.drop (k + 1) = y.rules.drop (k + 1)) := by
             show _ ↔ _
             rw [HREC.out, HDR.out]
             exact ⟨fun h => h.2, fun h => ⟨of_eqB HB.out, h⟩⟩
            go_wp2_with fail
            go_roundw
            case rel => exact ⟨k + 1, HKL.out, (by have := HKL.out; have := HLX.out; rw [show wrap64 ((k : Int) + 1) = ((k + 1 : Nat) : Int) by unfold wrap64; omega]), HNX.out, H9.out⟩
            case measure => exact measure_up HKL.out HLX.out.2.2
         ·have HE2 : Hid (x.rules = y.rules) := by
           show _ = _
           rw [HREC.out, List.drop_of_length_le (by omega), List.drop_of_length_le (by have := HN2.out; omega)]
          have hkl2 : ¬ ((k : Int) < (x.rules.length : Int)) := by omega
          have HF : Hid (eqB (x = y) = true) := by
           show _ = _
           exact eqB_true (HEX.out.2 ⟨HE0.out, HE1.out, HE2.out⟩)
          go_wp2_with fail
          go_ret
          exact ⟨retB HF.out.symm, BR.out⟩
   ·have n2 : ((x.rules.length : Int) != (y.rules.length : Int)) = true := by simp; omega
    have HF : Hid (eqB (x = y) = false) := by
     show _ = _
     exact eqB_false (fun e => h2 (by rw [(HEX.out.1 e).2.2]))
    go_wp2_with fail
    go_ret
    exact ⟨retB HF.out.symm, B1.out⟩
  ·have n1 : ((x.facts.length : Int) != (y.facts.length : Int)) = true := by simp; omega
   have HF : Hid (eqB (x = y) = false) := by
    show _ = _
    exact eqB_false (fun e => h1 (by rw [(HEX.out.1 e).2.1]))
   go_wp2_with fail
   go_ret
   exact ⟨retB HF.out.symm, B1.out⟩
 ·have n0 : ((x.decls.length : Int) != (y.decls.length : Int)) = true := by simp; omega
  have HF : Hid (eqB (x = y) = false) := by
   show _ = _
   exact eqB_false (fun e => h0 (by rw [(HEX.out.1 e).1]))
  go_wp2_with fail
  go_ret
  exact ⟨retB HF.out.symm, B1.out⟩
end Go.Proofs.YtgjemmdhamkngaaGreatDoor
