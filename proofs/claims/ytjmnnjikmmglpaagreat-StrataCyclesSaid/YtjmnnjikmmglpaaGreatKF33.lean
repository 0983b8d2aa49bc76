/-
  LawTCycles, Open, LawPost, OpenTm, OpenFour, OpenSix
-/
import Derived.Test.YtjmnnjikmmglpaaGreatKF30
import Derived.Test.YtjmnnjikmmglpaaGreatKF32
import Derived.Test.YtjmnnjikmmglpaaGreatKF01
import Derived.Test.YtjmnnjikmmglpaaGreatRows
import Derived.Test.YtjmnnjikmmglpaaGreatKF04
import Derived.Test.YtjmnnjikmmglpaaGreatKF06
import Derived.Laws.Tables
import Derived.BigQuiet
import Derived.ProofKit
import Derived.Lib.SmallJoins
import Derived.Deep.Slices
import Derived.OpenShut
import Derived.Deep.DeepHandedRow
import Derived.Deep.Strs
import Derived.Laws.IdiomArrays
namespace Go.Proofs.YtjmnnjikmmglpaaGreat.strataCycles
open Go.RowKit
def rndTo (S : Nat → Nat → Bool) : Nat → Bool
 | 0 => false
 | n + 1 => rndTo S n || S n n
theorem rnd_has {S : Nat → Nat → Bool} : ∀ {n i : Nat}, i < n → S i i = true → rndTo S n = true
 | n + 1, i, h, hs => by
  rw [rndTo, Bool.or_eq_true];rcases Nat.lt_succ_iff_lt_or_eq.1 h with h | rfl
  ·exact .inl (rnd_has h hs)
  ·exact .inr hs
set_option maxRecDepth 100000 in
set_option maxHeartbeats 8000000 in
theorem walk (rules : List (List Rw)) (W : World) (va : Value) (ga : RepRwss (fun k => k < W.heap.size) W rules va) :
  Calls Tryz.prog 3 #[va] W fun e W' => e = .returned (.bool true) ∧ Below W.heap.size W W' := by
 have GA := Lib.hid ga;clear ga;go_enter Tryz.func3, Tryz.ntmps3
 go_wp2_with fail
 refine (awake8_any W).mono ?_;rintro e w1 ⟨rfl, hb⟩;have B1 := Lib.hid hb;clear hb;go_wp2_with fail
 refine (program_any rules [] (fun k => k < W.heap.size) w1 va _ (fun k hk => Nat.lt_of_lt_of_le hk B1.out.size) (SlG.on (fun _ h => h) (fun k hk => B1.out.block k hk) (fun x _ c h => SlG.on (fun _ h => h) (fun k hk => B1.out.block k hk) (fun _ _ _ h => h) h) GA.out) slg_nil).mono ?_;rintro e w2 ⟨v0, v1, v2, rfl, hrep, hb⟩;have HDE : Hid ((progZ rules []).decls = decls6) := rfl;generalize progZ rules [] = q at *;obtain ⟨d0, d1, rfl⟩ := SlG.form hrep.1;obtain ⟨f0, f1, rfl⟩ := SlG.form hrep.2.1;obtain ⟨r0, r1, rfl⟩ := SlG.form hrep.2.2;have HRP := Lib.hid hrep; have B2 := Lib.hid (Below.step B1.out hb)
 clear hrep hb B1 GA;go_upto_region 3 with fail
 have mk := boxPr_new w2 (.slice d0 q.decls.length d1) (.slice f0 q.facts.length f1) (.slice r0 q.rules.length r1);have da := below_alloc w2 (.cells #[.slice d0 q.decls.length d1, .slice f0 q.facts.length f1, .slice r0 q.rules.length r1] 28);have sa := World.size_alloc w2 (.cells #[.slice d0 q.decls.length d1, .slice f0 q.facts.length f1, .slice r0 q.rules.length r1] 28);generalize w2.alloc (.cells #[.slice d0 q.decls.length d1, .slice f0 q.facts.length f1, .slice r0 q.rules.length r1] 28) = w3 at *;have GQ : Hid (RepPr (fun k => k < w2.heap.size) w3 q (.slice d0 q.decls.length d1) (.slice f0 q.facts.length f1) (.slice r0 q.rules.length r1)) := RepPr.on (fun k hk => hk.2) (fun k hk => da.block k hk.2) HRP.out;have B := Lib.hid (Below.step B2.out da);obtain ⟨k6, hk6⟩ : ∃ k, w2.heap.size = k := ⟨_, rfl⟩;rw [hk6] at mk GQ sa ⊢;have X := Lib.hid mk;have K : Hid (k6 < w3.heap.size) := by show _ < _; omega
 clear mk da sa hk6 HRP B2;obtain ⟨o0, o1, o2⟩ := X.out.cells;go_wp2_with fail
 refine (check_any q (fun k => k < k6) w3 _ _ _ (fun k hk => Nat.lt_trans hk K.out) GQ.out).mono ?_;rintro e w4 ⟨rfl, hb⟩;replace X := Lib.hid (X.out.on hb);replace GQ : Hid (RepPr (fun k => k < k6) w4 q (.slice d0 q.decls.length d1) (.slice f0 q.facts.length f1) (.slice r0 q.rules.length r1)) := RepPr.on (fun _ h => h) (fun k hk => hb.block k (Nat.lt_trans hk K.out)) GQ.out;replace B := Lib.hid (Below.step B.out hb); replace K := Lib.hid (Nat.lt_of_lt_of_le K.out hb.size)
 clear hb o0 o1 o2;obtain ⟨o0, o1, o2⟩ := X.out.cells
 by_cases hc : (checkZ q).1 = 0
 ·have HC := Lib.hid hc
  have h6 : q.decls.length = 6 := by rw [HDE.out]; rfl
  have HIN : Hid (Inside 6 (prSteps q)) := by have h := steps_inside hc; rw [h6] at h; exact h
  have H6 := Lib.hid h6;clear h6;have h1 : ((checkZ q).1 != 0) = false := by rw [hc]; rfl
  clear hc;generalize (checkZ q).1 = cz1 at h1 ⊢;generalize (checkZ q).2 = cz at *;go_wp2_with fail
  refine (hangs_any q (fun k => k < k6) w4 _ _ _ (fun k hk => Nat.lt_trans hk K.out) GQ.out HDE.out HC.out).mono ?_;rintro e w5 ⟨hb, arrA, arrS, A, S, rfl, hva, hvs, hway, hfirm⟩;have VS := Lib.hid hvs; have VA := Lib.hid hva
  have HWY := Lib.hid hway; have HFM := Lib.hid hfirm
  replace X := Lib.hid (X.out.on hb);replace GQ : Hid (RepPr (fun k => k < k6) w5 q (.slice d0 q.decls.length d1) (.slice f0 q.facts.length f1) (.slice r0 q.rules.length r1)) := RepPr.on (fun _ h => h) (fun k hk => hb.block k (Nat.lt_trans hk K.out)) GQ.out;replace B := Lib.hid (Below.step B.out hb); replace K := Lib.hid (Nat.lt_of_lt_of_le K.out hb.size)
  clear hb hfirm hway hvs hva o0 o1 o2;have hA36 := VA.out.1;have hS36 := VS.out.1;go_upto_region 8 with fail
  all_goals try exact absurd hA36 (by assumption)
  rw [run_storeCells_from (P := Tryz.prog) w5.heap.size 37 arrA.toList 0 #[.bool false, .bool false, .bool false, .bool false, .bool false, .bool false, .bool false, .bool false, .bool false, .bool false, .bool false, .bool false, .bool false, .bool false, .bool false, .bool false, .bool false, .bool false, .bool false, .bool false, .bool false, .bool false, .bool false, .bool false, .bool false, .bool false, .bool false, .bool false, .bool false, .bool false, .bool false, .bool false, .bool false, .bool false, .bool false, .bool false] _ (below_alloc _ _ |>.block _ (by rw [World.size_alloc]; omega) |>.trans (alloc_new' _ _)) (by simp [hA36]) (fun v hv => (Array.all_eq_true_iff_forall_mem.1 VA.out.one) v (by simpa using hv))];simp only [Result.andThen_ok]
  go_upto_region 8 with fail
  all_goals try exact absurd hS36 (by assumption)
  have L0 : ((w5.alloc (.cells #[.bool false, .bool false, .bool false, .bool false, .bool false, .bool false, .bool false, .bool false, .bool false, .bool false, .bool false, .bool false, .bool false, .bool false, .bool false, .bool false, .bool false, .bool false, .bool false, .bool false, .bool false, .bool false, .bool false, .bool false, .bool false, .bool false, .bool false, .bool false, .bool false, .bool false, .bool false, .bool false, .bool false, .bool false, .bool false, .bool false] 37)).alloc (.cells #[.bool false, .bool false, .bool false, .bool false, .bool false, .bool false, .bool false, .bool false, .bool false, .bool false, .bool false, .bool false, .bool false, .bool false, .bool false, .bool false, .bool false, .bool false, .bool false, .bool false, .bool false, .bool false, .bool false, .bool false, .bool false, .bool false, .bool false, .bool false, .bool false, .bool false, .bool false, .bool false, .bool false, .bool false, .bool false, .bool false] 37)).heap[w5.heap.size]? = some (.cells #[.bool false, .bool false, .bool false, .bool false, .bool false, .bool false, .bool false, .bool false, .bool false, .bool false, .bool false, .bool false, .bool false, .bool false, .bool false, .bool false, .bool false, .bool false, .bool false, .bool false, .bool false, .bool false, .bool false, .bool false, .bool false, .bool false, .bool false, .bool false, .bool false, .bool false, .bool false, .bool false, .bool false, .bool false, .bool false, .bool false] 37 (0, 0)) := (below_alloc _ _ |>.block _ (by rw [World.size_alloc]; omega) |>.trans (alloc_new' _ _))
  have L1 : (((w5.alloc (.cells #[.bool false, .bool false, .bool false, .bool false, .bool false, .bool false, .bool false, .bool false, .bool false, .bool false, .bool false, .bool false, .bool false, .bool false, .bool false, .bool false, .bool false, .bool false, .bool false, .bool false, .bool false, .bool false, .bool false, .bool false, .bool false, .bool false, .bool false, .bool false, .bool false, .bool false, .bool false, .bool false, .bool false, .bool false, .bool false, .bool false] 37)).alloc (.cells #[.bool false, .bool false, .bool false, .bool false, .bool false, .bool false, .bool false, .bool false, .bool false, .bool false, .bool false, .bool false, .bool false, .bool false, .bool false, .bool false, .bool false, .bool false, .bool false, .bool false, .bool false, .bool false, .bool false, .bool false, .bool false, .bool false, .bool false, .bool false, .bool false, .bool false, .bool false, .bool false, .bool false, .bool false, .bool false, .bool false] 37)).setRow w5.heap.size arrA).heap[w5.heap.size + 1]? = some (.cells #[.bool false, .bool false, .bool false, .bool false, .bool false, .bool false, .bool false, .bool false, .bool false, .bool false, .bool false, .bool false, .bool false, .bool false, .bool false, .bool false, .bool false, .bool false, .bool false, .bool false, .bool false, .bool false, .bool false, .bool false, .bool false, .bool false, .bool false, .bool false, .bool false, .bool false, .bool false, .bool false, .bool false, .bool false, .bool false, .bool false] 37 (0, 0)) := by
   rw [setRow_other _ _ _ _ (by omega)];have h := alloc_new' (w5.alloc (.cells #[.bool false, .bool false, .bool false, .bool false, .bool false, .bool false, .bool false, .bool false, .bool false, .bool false, .bool false, .bool false, .bool false, .bool false, .bool false, .bool false, .bool false, .bool false, .bool false, .bool false, .bool false, .bool false, .bool false, .bool false, .bool false, .bool false, .bool false, .bool false, .bool false, .bool false, .bool false, .bool false, .bool false, .bool false, .bool false, .bool false] 37)) (.cells #[.bool false, .bool false, .bool false, .bool false, .bool false, .bool false, .bool false, .bool false, .bool false, .bool false, .bool false, .bool false, .bool false, .bool false, .bool false, .bool false, .bool false, .bool false, .bool false, .bool false, .bool false, .bool false, .bool false, .bool false, .bool false, .bool false, .bool false, .bool false, .bool false, .bool false, .bool false, .bool false, .bool false, .bool false, .bool false, .bool false] 37);rw [World.size_alloc] at h;exact h
  have B1 : Below w5.heap.size w5 (((w5.alloc (.cells #[.bool false, .bool false, .bool false, .bool false, .bool false, .bool false, .bool false, .bool false, .bool false, .bool false, .bool false, .bool false, .bool false, .bool false, .bool false, .bool false, .bool false, .bool false, .bool false, .bool false, .bool false, .bool false, .bool false, .bool false, .bool false, .bool false, .bool false, .bool false, .bool false, .bool false, .bool false, .bool false, .bool false, .bool false, .bool false, .bool false] 37)).alloc (.cells #[.bool false, .bool false, .bool false, .bool false, .bool false, .bool false, .bool false, .bool false, .bool false, .bool false, .bool false, .bool false, .bool false, .bool false, .bool false, .bool false, .bool false, .bool false, .bool false, .bool false, .bool false, .bool false, .bool false, .bool false, .bool false, .bool false, .bool false, .bool false, .bool false, .bool false, .bool false, .bool false, .bool false, .bool false, .bool false, .bool false] 37)).setRow w5.heap.size arrA) := below_setRow (Below.step (below_alloc _ _) (below_alloc _ _)) (Nat.le_refl _) _;rw [run_storeCells_from (P := Tryz.prog) (w5.heap.size + 1) 37 arrS.toList 0 #[.bool false, .bool false, .bool false, .bool false, .bool false, .bool false, .bool false, .bool false, .bool false, .bool false, .bool false, .bool false, .bool false, .bool false, .bool false, .bool false, .bool false, .bool false, .bool false, .bool false, .bool false, .bool false, .bool false, .bool false, .bool false, .bool false, .bool false, .bool false, .bool false, .bool false, .bool false, .bool false, .bool false, .bool false, .bool false, .bool false] _ L1 (by simp [hS36]) (fun v hv => (Array.all_eq_true_iff_forall_mem.1 VS.out.one) v (by simpa using hv))];simp only [Result.andThen_ok]
  go_upto_region 8 with fail
  have L2 := setRow_heap _ _ _ arrS _ _ L1;have L3 := setRow_heap _ _ _ arrA _ _ L0;rw [← setRow_other _ (w5.heap.size + 1) _ arrS (show w5.heap.size ≠ w5.heap.size + 1 by omega)] at L3;have B2 := below_setRow B1 (Nat.le_succ _) arrS (g := w5.heap.size + 1);generalize (((w5.alloc (.cells #[.bool false, .bool false, .bool false, .bool false, .bool false, .bool false, .bool false, .bool false, .bool false, .bool false, .bool false, .bool false, .bool false, .bool false, .bool false, .bool false, .bool false, .bool false, .bool false, .bool false, .bool false, .bool false, .bool false, .bool false, .bool false, .bool false, .bool false, .bool false, .bool false, .bool false, .bool false, .bool false, .bool false, .bool false, .bool false, .bool false] 37)).alloc (.cells #[.bool false, .bool false, .bool false, .bool false, .bool false, .bool false, .bool false, .bool false, .bool false, .bool false, .bool false, .bool false, .bool false, .bool false, .bool false, .bool false, .bool false, .bool false, .bool false, .bool false, .bool false, .bool false, .bool false, .bool false, .bool false, .bool false, .bool false, .bool false, .bool false, .bool false, .bool false, .bool false, .bool false, .bool false, .bool false, .bool false] 37)).setRow w5.heap.size arrA).setRow (w5.heap.size + 1) arrS = w6 at *;have TS : Hid (TabAt w6 (w5.heap.size + 1) S) := ⟨arrS, L2, VS.out⟩;have TA : Hid (TabAt w6 w5.heap.size A) := ⟨arrA, L3, VA.out⟩;obtain ⟨b1, hb1⟩ : ∃ k, w5.heap.size + 1 = k := ⟨_, rfl⟩;rw [hb1] at TS ⊢;replace X := Lib.hid (X.out.on B2);replace GQ : Hid (RepPr (fun k => k < k6) w6 q (.slice d0 q.decls.length d1) (.slice f0 q.facts.length f1) (.slice r0 q.rules.length r1)) := RepPr.on (fun _ h => h) (fun k hk => B2.block k (Nat.lt_trans hk K.out)) GQ.out;replace B := Lib.hid (Below.step B.out B2); replace K := Lib.hid (Nat.lt_of_lt_of_le K.out B2.size)
  clear L0 L1 L2 L3 B1 B2 hb1 hA36 hS36;obtain ⟨b0, hb0⟩ : ∃ k, w5.heap.size = k := ⟨_, rfl⟩;rw [hb0] at TA ⊢;clear hb0 VA VS;obtain ⟨o0, o1, o2⟩ := X.out.cells;go_wp2_with fail
  refine (strata_any q (fun k => k < k6) w6 _ _ _ (fun k hk => Nat.lt_trans hk K.out) GQ.out).mono ?_;intro e w7 hs;obtain ⟨La, ca, va', rfl, hla, hra, hb⟩ := strata_rep hs;have HLA : Hid (RepIs (fun b => b < w7.heap.size) w7 La va') := RepIs.on (fun b hb => hb.2) (fun _ _ => rfl) hla;replace TA := Lib.hid (TA.out.on hb); replace TS := Lib.hid (TS.out.on hb)
  replace B := Lib.hid (Below.step B.out hb);clear hs hla hb o0 o1 o2 X GQ K;obtain ⟨aa, ac, rfl⟩ := SlG.form HLA.out;rcases hra with ⟨hc, -, -⟩ | ⟨-, hno, hl, hce⟩ | ⟨-, f, hf, hl, hce⟩
  ·exact absurd HC.out hc
  ·have h6 := H6.out
   subst hl hce
   have HRN : Hid (rndTo S 6 = true) := by
    show _ = _
    refine Classical.byContradiction fun h => hno (sol_of_no_round HIN.out fun i hi hfi => h (rnd_has hi ((HFM.out i hi i hi).2 hfi)))
   clear hno HC HIN HFM HWY HDE h6 H6;go_wp2_with fail
   go_loopw [13, 14] (fun rv iv wr => ∃ i : Nat, i ≤ 6 ∧ rv = .bool (rndTo S i) ∧ iv = .int .i64 (i : Int) ∧ wr = w7) (fun _ iv _ => 6 - (intOf iv).toNat)
   case atStart => exact ⟨0, by omega, rfl, rfl, rfl⟩
   case round =>
    obtain ⟨i, hi, rfl, rfl, rfl⟩ := hrel
    by_cases hi6 : i < 6
    ·have i1 : (0 : Int) ≤ (i : Int) := Int.natCast_nonneg _
     have i2 : (i : Int) < 6 := by omega
     have c0 := TS.out.cell hi6 hi6;have HN : Hid (rndTo S (i + 1) = (rndTo S i || S i i)) := rfl
     cases hr : rndTo S i with
     | true =>
      have HK : Hid (true = rndTo S (i + 1)) := by show _ = _; rw [HN.out, hr]; rfl
      go_wp2_with fail
      go_roundw
      case rel => exact ⟨i + 1, hi6, by rw [← HK.out], by go_num, trivial⟩
      case measure => simp [intOf]; omega
     | false =>
      have HK : Hid (S i i = rndTo S (i + 1)) := by show _ = _; rw [HN.out, hr]; rfl
      go_wp2_with fail
      go_roundw
      case rel => exact ⟨i + 1, hi6, by rw [← HK.out], by go_num, trivial⟩
      case measure => simp [intOf]; omega
    ·have hi7 : i = 6 := by omega
     subst hi7;rw [HRN.out];go_wp2_with fail
     go_ret
     exact ⟨rfl, B.out⟩
  ·have h6 := H6.out
   subst hce;have HF : Hid (Sol (prSteps q) f) := by rw [h6] at hf; exact hf.1
   rw [h6] at hl;subst hl;have hlen : (numL f 6).length = 6 := numL_len f 6;rw [hlen] at HLA ⊢;obtain ⟨-, -, lb, lo, rfl, hlb, c, hc, hcx⟩ := SlG.at HLA.out 0 (by rw [numL_len]; omega);have HLB : Hid (lb < w7.heap.size) := hlb;clear hlb
   have HCL : Hid (∀ j < 6, w7.cell? ⟨lb, lo + j, none⟩ = some (.int .i64 (f j : Int))) := by
    intro j hj;obtain ⟨-, -, lb', lo', he, -, c, hc, hcx⟩ := SlG.at HLA.out j (by rw [numL_len]; omega);have h := hc 0 (by omega);rw [hcx, numL_at] at h
    cases he
    simpa using h
   have HS : Hid (∀ i < 6, ∀ j < 6, S i j = true → f j + 1 ≤ f i) := fun i hi j hj h => Firm.sol HF.out ((HFM.out i hi j hj).1 h)
   have HA : Hid (∀ i < 6, ∀ j < 6, A i j = true → f j ≤ f i) := fun i hi j hj h => Way.sol HF.out ((HWY.out i hi j hj).1 h)
   clear hc hcx HLA hf hlen HF HC HIN HFM HWY HDE h6 H6;go_wp2_with fail
   go_loopw [13, 14] (fun rv iv wr => ∃ i : Nat, i ≤ 6 ∧ rv = .bool false ∧ iv = .int .i64 (i : Int) ∧ wr = w7) (fun _ iv _ => 6 - (intOf iv).toNat)
   case atStart => exact ⟨0, by omega, rfl, rfl, rfl⟩
   case round =>
    obtain ⟨i, hi, rfl, rfl, rfl⟩ := hrel
    by_cases hi6 : i < 6
    ·have i1 : (0 : Int) ≤ (i : Int) := Int.natCast_nonneg _
     have i2 : (i : Int) < 6 := by omega
     have c0 := TS.out.cell hi6 hi6
     have hs : S i i = false := by
      cases hs : S i i with
      | false => rfl
      | true => have := HS.out i hi6 i hi6 hs; omega
     rw [hs] at c0;go_wp2_with fail
     go_roundw
     case rel => exact ⟨i + 1, hi6, rfl, by go_num, trivial⟩
     case measure => simp [intOf]; omega
    ·have hi7 : i = 6 := by omega
     subst hi7;go_wp2_with fail
     generalize wr = wq at *;go_loopw [15] (fun iv wz => ∃ i : Nat, i ≤ 6 ∧ iv = .int .i64 (i : Int) ∧ Hid (Below wq.heap.size wq wz)) (fun iv _ => 6 - (intOf iv).toNat)
     case atStart => exact ⟨0, by omega, rfl, Below.refl _ _⟩
     case round =>
      obtain ⟨i, hi, rfl, hbo⟩ := hrel;generalize wr = wo at *
      by_cases hi6 : i < 6
      ·have i1 : (0 : Int) ≤ (i : Int) := Int.natCast_nonneg _
       have i2 : (i : Int) < 6 := by omega
       have HI : Hid (i < 6) := hi6;go_wp2_with fail
       go_loopw [16] (fun jv wz => ∃ j : Nat, j ≤ 6 ∧ jv = .int .i64 (j : Int) ∧ Hid (Below wq.heap.size wq wz)) (fun jv _ => 6 - (intOf jv).toNat)
       case atStart => exact ⟨0, by omega, rfl, hbo⟩
       case round =>
        obtain ⟨j, hj, rfl, hbi⟩ := hrel
        by_cases hj6 : j < 6
        ·have j1 : (0 : Int) ≤ (j : Int) := Int.natCast_nonneg _
         have j2 : (j : Int) < 6 := by omega
         have c0 := (TA.out.on hbi.out).cell hi6 hj6;have c1 := (TS.out.on hbi.out).cell hi6 hj6;have q0 := (hbi.out.cell (p := ⟨lb, lo + i, none⟩) HLB.out).trans (HCL.out i hi6);have q1 := (hbi.out.cell (p := ⟨lb, lo + j, none⟩) HLB.out).trans (HCL.out j hj6);have a0 : A i j = true → ¬ (f i : Int) < (f j : Int) := fun h => by have := HA.out i hi6 j hj6 h; omega
         have a1 : S i j = true → ¬ (f i : Int) ≤ (f j : Int) := fun h => by have := HS.out i hi6 j hj6 h; omega
         generalize (f i : Int) = x at *;generalize (f j : Int) = y at *
         cases ha : A i j <;> cases hs : S i j <;> rw [ha] at c0 <;> rw [hs] at c1
         ·clear a0 a1
          go_upto_region 24 with fail
          go_quiet (fail)
          go_wp2_with fail
          go_roundw
          case rel => exact ⟨j + 1, hj6, by go_num, below_drewN hbi.out _⟩
          case measure => simp [intOf]; omega
         ·have a2 := decide_eq_false (a1 hs)
          clear a0 a1;go_upto_region 24 with fail
          go_quiet (fail)
          go_wp2_with fail
          go_roundw
          case rel => exact ⟨j + 1, hj6, by go_num, below_drewN hbi.out _⟩
          case measure => simp [intOf]; omega
         ·have a3 := decide_eq_false (a0 ha)
          clear a0 a1;go_upto_region 24 with fail
          go_quiet (fail)
          go_wp2_with fail
          go_roundw
          case rel => exact ⟨j + 1, hj6, by go_num, below_drewN hbi.out _⟩
          case measure => simp [intOf]; omega
         ·have a2 := decide_eq_false (a1 hs)
          have a3 := decide_eq_false (a0 ha);clear a0 a1;go_upto_region 24 with fail
          go_quiet (fail)
          go_wp2_with fail
          go_roundw
          case rel => exact ⟨j + 1, hj6, by go_num, below_drewN hbi.out _⟩
          case measure => simp [intOf]; omega
        ·have hj7 : j = 6 := by omega
         subst hj7;go_wp2_with fail
         go_roundw
         case rel => exact ⟨i + 1, HI.out, by go_num, hbi⟩
         case measure => simp [intOf]; have := HI.out; omega
      ·have hi7 : i = 6 := by omega
       subst hi7;go_wp2_with fail
       go_ret
       exact ⟨rfl, Below.step B.out hbo.out⟩
 ·have h1 : ((checkZ q).1 != 0) = true := by simpa using hc
  have HC := Lib.hid hc;go_wp2_with fail
  refine (strata_any q (fun k => k < k6) w4 _ _ _ (fun k hk => Nat.lt_trans hk K.out) GQ.out).mono ?_;intro e w5 hs;obtain ⟨La, ca, va', rfl, hla, hra, hb⟩ := strata_rep hs;replace B := Lib.hid (Below.step B.out hb);obtain ⟨aa, ac, rfl⟩ := SlG.form hla;clear hs hla hb o0 o1 o2 X GQ K;rcases hra with ⟨-, hl, hce⟩ | ⟨hc, -⟩ | ⟨hc, -⟩
  ·subst hl hce
   go_wp2_with fail
   go_ret
   exact ⟨by simp, B.out⟩
  ·exact absurd hc HC.out
  ·exact absurd hc HC.out
end Go.Proofs.YtjmnnjikmmglpaaGreat.strataCycles
namespace Go.Proofs.YtjmnnjikmmglpaaGreat
open Go.ChangeShapes Go.WideShapes Go.ChangeAt Go.RowKit Go.Deep Go.Joins
theorem cellsInt : Tryz.prog.cellsOf 3 = 1 := by kernel_rfl
theorem i64_wf {n : Int} (h : (Lit.int .i64 n).wf = true) : I64 n := bounds_i64 h
section
variable {H : Type} {enc : TypeId × Value → H} {W : World}
theorem weightsAll_mem {P : Program} {e : TypeId} {ds : List (DataW H)} {d : DataW H} (h : d ∈ ds) (n : Nat) (hn : n ∈ d.weights P e) : n ∈ DataW.weightsAll P e ds := by
 induction ds with
 | nil => cases h
 | cons x r ih =>
  rw [DataW.weightsAll, List.mem_append];rcases List.mem_cons.1 h with rfl | h
  ·exact Or.inl hn
  ·exact Or.inr (ih h)
def Fits (P : Program) (t : TypeId) (d : DataW H) : Prop := ∀ n ∈ d.weights P t, n ≤ reachBytes
theorem cell_lt {w : World} {a : Addr} {v : Value} (h : w.cell? a = some v) : a.block < w.heap.size := by
 by_cases hlt : a.block < w.heap.size
 ·exact hlt
 ·have hn : w.heap[a.block]? = none := by simp; omega
  simp [World.cell?, hn] at h
theorem sizeOf_mem {D : Nat → DataW H} {len i : Nat} (h : i < len) {sp : List (DataW H)} : SizeOf.sizeOf (D i) < SizeOf.sizeOf (DataW.slice ((List.range len).map D) sp) := by
 have := List.sizeOf_lt_of_mem (List.mem_map_of_mem (f := D) (List.mem_range.2 h));simp only [DataW.slice.sizeOf_spec]
 omega
set_option maxRecDepth 100000 in
end
end Go.Proofs.YtjmnnjikmmglpaaGreat
namespace Go.Proofs.YtjmnnjikmmglpaaGreat
open Go.ChangeShapes Go.WideShapes Go.ChangeAt Go.RowKit
theorem own : ownKnob Tryz.prog.godebug = none := by kernel_rfl
theorem laidOut : laidOutB Tryz.prog = true := by kernel_rfl
noncomputable def plainWorld (os : Os) : World := World.holding Tryz.prog os ⟨#[], #[], []⟩
section
variable {H : Type} {enc : TypeId × Value → H}
theorem trodAll_below {W W' : World} (hb : Below W.heap.size W W') : ∀ (ts : List TypeId) (vs : List Value) (ds : List (DataW H)) (ps : List MemPlace), DataW.TrodAll enc Tryz.prog W 0 (fun _ => true) true ts vs ds ps →
  (∀ t ∈ ts, Tryz.prog.readableRec t = true ∧ t < Tryz.prog.types.size) → (∀ x ∈ ps, x.block < W.heap.size) → DataW.TrodAll enc Tryz.prog W' 0 (fun b => decide (b < W.heap.size)) true ts vs ds ps
 | [], [], [], ps, h, _, _ => h
 | t :: ts, v :: vs, d :: ds, ps, h, ht, hp => by
  obtain ⟨p, q, h1, h2, rfl⟩ := h;obtain ⟨r1, r2⟩ := ht t (by simp);exact ⟨p, q, Below.trod laidOut r1 r2 h1 hb (fun x hx => hp x (by simp [hx])), trodAll_below hb ts vs ds q h2 (fun t' h' => ht t' (by simp [h'])) (fun x hx => hp x (by simp [hx])), rfl⟩
 | [], _ :: _, _, _, h, _, _ => by cases h
 | _ :: _, [], _, _, h, _, _ => by cases h
 | [], [], _ :: _, _, h, _, _ => by cases h
 | _ :: _, _ :: _, [], _, h, _, _ => by cases h
theorem law_post {fn : Func} {s : ChangeSpec} {W W' : World} {args : Array Value} {ds gs : List (DataW H)} {before : List MemPlace}
  (hvars : s.vars = []) (hres : fn.resultTypes = #[4]) (hread : ∀ t ∈ fn.params.toList, Tryz.prog.readableRec t = true ∧ t < Tryz.prog.types.size)
  (hW : DataW.Whole enc Tryz.prog fn.params.toList s.vars false W args.toList ds gs before)
  (hs : s.fn H (ds ++ gs) = { results := [.lit (.bool true)], args := ds })
  (hb : Below W.heap.size W W') : s.post enc Tryz.prog fn false true false false W args (.bool true) W' := by
 have hW' := hW;obtain ⟨p, q, hA, hV, rfl, hfz, hnd⟩ := hW;rw [hvars] at hV;obtain ⟨rfl, rfl⟩ := trodVars_none hV;refine ⟨ds, [], p ++ [], [], p, [], hW', ?_, ?_, ?_, hb.frame _, fun h => by cases h⟩
 ·rw [hres, hs]
  exact trodAll_cons_mk (shut_bool Tryz.underlying4 _) trodAll_mk0
 ·rw [hs]
  exact trodAll_below hb _ _ _ _ hA hread (fun x hx => hW'.lt x (by simp [hx]))
 ·rw [hs, hvars]
  rfl
theorem fits_cons {t : TypeId} {ts : List TypeId} {d : DataW H} {ds : List (DataW H)} (h : (DataW.weightsEach Tryz.prog (t :: ts) (d :: ds)).all (· ≤ reachBytes) = true) :
  Fits Tryz.prog t d ∧ (DataW.weightsEach Tryz.prog ts ds).all (· ≤ reachBytes) = true := by
 rw [DataW.weightsEach, List.all_append, Bool.and_eq_true] at h;exact ⟨fun n hn => by simpa using (List.all_eq_true.1 h.1) n hn, h.2⟩
end
end Go.Proofs.YtjmnnjikmmglpaaGreat
namespace Go.Proofs.YtjmnnjikmmglpaaGreat
open Go.ChangeShapes Go.WideShapes Go.ChangeAt Go.RowKit Go.Deep Go.Joins
section
variable {H : Type} {enc : TypeId × Value → H} {W : World}
theorem fits_slice {st et : TypeId} {bytes : Nat} (hu : Tryz.prog.underlying st = some (.slice et)) (hb : Tryz.prog.bytesOf et = bytes) {elems spare : List (DataW H)} (h : Fits Tryz.prog st (.slice elems spare)) : (elems.length + spare.length) * bytes ≤ 140737488351232 ∧ ∀ d ∈ elems, Fits Tryz.prog et d := by
 simp only [Fits, DataW.weights, hu, hb] at h
 refine ⟨h _ (List.mem_cons_self), fun d hd n hn => h n (List.mem_cons_of_mem _ (List.mem_append_left _ (weightsAll_mem hd n hn)))⟩
set_option maxRecDepth 100000 in
theorem slg_of_trod {α : Type} {st et : TypeId} {n bytes : Nat} (R : α → (Nat → Value) → Prop) (x0 : α) (hu : Tryz.prog.underlying st = some (.slice et)) (hc : Tryz.prog.cellsOf et = n) (hb : Tryz.prog.bytesOf et = bytes) (hn : 0 < n)
  (d : DataW H) (fuel : Nat) (v : Value) (ps : List MemPlace) (h : DataW.trod enc Tryz.prog W 0 (fun _ => true) true fuel st [v] = some (d, ps)) (hf : Fits Tryz.prog st d)
  (hel : ∀ (d' : DataW H) (fuel' : Nat) (cs : List Value) (ps' : List MemPlace), SizeOf.sizeOf d' < SizeOf.sizeOf d → DataW.trod enc Tryz.prog W 0 (fun _ => true) true fuel' et cs = some (d', ps') → Fits Tryz.prog et d' → ∃ (x : α) (c : Nat → Value), (∀ j, j < n → cs[j]? = some (c j)) ∧ R x c) :
  ∃ l, SlG (fun k => k < W.heap.size) W n bytes R l v ∧ l.length * bytes ≤ 140737488351232 := by
 rcases open_slice hu h with ⟨hcs, hx⟩ | ⟨a, len, cap, mm, nf, D, Pl, hcs, _, hl, hm, hmm, hx, hall⟩
 ·simp only [List.cons.injEq, and_true] at hcs
  subst hcs;exact ⟨[], ⟨none, 0, 0, 0, rfl, Nat.le_refl _, by simp, fun h => by omega, fun h => by simp at h, fun i hi => by simp at hi⟩, by simp⟩
 ·simp only [List.cons.injEq, and_true] at hcs
  subst hcs;simp only [if_true] at hmm
  subst hmm;simp only [Prod.mk.injEq] at hx
  obtain ⟨hd, _⟩ := hx;rw [hc] at hall;have hfv := hf;rw [hd] at hfv;obtain ⟨hcap, hfe⟩ := fits_slice hu hb hfv
  have hcap' : mm * bytes ≤ 140737488351232 := by
   simp only [List.length_map, List.length_range] at hcap
   have : len + (mm - len) = mm := by omega
   rw [this] at hcap;exact hcap
  have hsz : ∀ i, i < len → SizeOf.sizeOf (D i) < SizeOf.sizeOf d := fun i hi => by rw [hd]; exact sizeOf_mem hi
  have hspot : 0 < mm → a.spot = none := fun h0 => by
   obtain ⟨cs', g1, g2⟩ := hall 0 h0;obtain ⟨_, hlen, hcell⟩ := World.cells?_some g1;have hc0 : cs'[0]? = some (cs'[0]'(by omega)) := List.getElem?_eq_getElem _;have := World.cell?_spot ((hcell 0 hn).trans hc0)
   simpa [Addr.add] using this
  have key : ∀ i : Nat, ∃ p : α × (Nat → Value), i < len → (∀ j, j < n → W.cell? ⟨a.block, a.off + i * n + j, none⟩ = some (p.2 j)) ∧ R p.1 p.2 := by
   intro i
   by_cases hi : i < len
   ·obtain ⟨cs', g1, g2⟩ := hall i (by omega)
    obtain ⟨x, c, hcj, hr⟩ := hel (D i) nf cs' (Pl i) (hsz i hi) g2 (hfe _ (List.mem_map_of_mem (List.mem_range.2 hi)));obtain ⟨_, hlen, hcell⟩ := World.cells?_some g1;refine ⟨(x, c), fun _ => ⟨fun j hj => ?_, hr⟩⟩;have hs := hspot (by omega);have e := (hcell j hj).trans (hcj j hj);obtain ⟨ab, ao, sp⟩ := a;simp only at hs
    subst hs;have add0 : ∀ (b o j : Nat), ((⟨b, o, none⟩ : Addr).add j) = ⟨b, o + j, none⟩ := by intro b o j; unfold Addr.add; split <;> simp_all
    rw [add0, add0] at e;exact e
   ·exact ⟨(x0, fun _ => undef), fun h => absurd h hi⟩
  obtain ⟨X, hX⟩ := Classical.axiomOfChoice key;have hby : len * bytes ≤ mm * bytes := Nat.mul_le_mul_right _ hl;refine ⟨(List.range len).map (fun i => (X i).1), ⟨some a, a.block, a.off, mm, by simp, by simpa using hl, by simp; omega, fun h0 => ?_, fun h0 => ?_, fun i hi => ?_⟩, by simp; omega⟩
  ·have := hspot h0
   obtain ⟨b, o, sp⟩ := a;simp at this
   subst this;rfl
  ·simp at h0
   obtain ⟨q, _⟩ := hX 0 (by omega);exact cell_lt (a := ⟨a.block, _, none⟩) (q 0 hn)
  ·have hi' : i < len := by simpa using hi
   obtain ⟨q, hr⟩ := hX i hi';exact ⟨_, q, by rw [List.getElem_map, List.getElem_range]; exact hr⟩
def at7o (c0 c1 c2 c3 c4 c5 c6 : Value) : Nat → Value
 | 0 => c0 | 1 => c1 | 2 => c2 | 3 => c3 | 4 => c4 | 5 => c5 | _ => c6
end
end Go.Proofs.YtjmnnjikmmglpaaGreat
namespace Go.Proofs.YtjmnnjikmmglpaaGreat
open Go.ChangeShapes Go.WideShapes Go.ChangeAt Go.RowKit Go.Deep Go.Joins
section
variable {H : Type} {enc : TypeId × Value → H} {W : World}
end
end Go.Proofs.YtjmnnjikmmglpaaGreat
namespace Go.Proofs.YtjmnnjikmmglpaaGreat
open Go.ChangeShapes Go.WideShapes Go.ChangeAt Go.RowKit Go.Deep Go.Joins
theorem cellsRw : Tryz.prog.cellsOf 77 = 6 := by kernel_rfl
theorem bytesRw : Tryz.prog.bytesOf 77 = 48 := by kernel_rfl
theorem cellsRws : Tryz.prog.cellsOf 42 = 1 := by kernel_rfl
theorem bytesRws : Tryz.prog.bytesOf 42 = 24 := by kernel_rfl
theorem cellsN4 : Tryz.prog.cellsOf 75 = 4 := by kernel_rfl
section
variable {H : Type} {enc : TypeId × Value → H} {W : World}
set_option maxRecDepth 100000 in
theorem rw_of_trod (d : DataW H) (fuel : Nat) (cs : List Value) (ps : List MemPlace) (h : DataW.trod enc Tryz.prog W 0 (fun _ => true) true fuel 77 cs = some (d, ps)) :
  ∃ (x : Rw) (c : Nat → Value), (∀ j, j < 6 → cs[j]? = some (c j)) ∧ RepRw (fun k => k < W.heap.size) W x c := by
 obtain ⟨y0, y1, y2, n, hx, hlen, h0, h1, h2⟩ := trod_struct3 Tryz.underlying77 h;rw [cellsRw] at hlen
 match cs, hlen with
 | [c0, c1, c2, c3, c4, c5], _ =>
  simp [cellsInt] at h0
  simp [cellsInt] at h1
  simp [cellsN4] at h2
  obtain ⟨k, e0, r0, w0⟩ := DataW.trod_int Tryz.underlying3 h0;obtain ⟨s, e1, r1, w1⟩ := DataW.trod_int Tryz.underlying3 h1;obtain ⟨z0, z1, z2, z3, n', hx', q0, q1, q2, q3⟩ := trod_array4 Tryz.underlying75 cellsInt h2;obtain ⟨n0, f0, r2, w2⟩ := DataW.trod_int Tryz.underlying3 q0;obtain ⟨n1, f1, r3, w3⟩ := DataW.trod_int Tryz.underlying3 q1;obtain ⟨n2, f2, r4, w4⟩ := DataW.trod_int Tryz.underlying3 q2;obtain ⟨n3, f3, r5, w5⟩ := DataW.trod_int Tryz.underlying3 q3;simp at e0 e1 f0 f1 f2 f3
  subst e0 e1 f0 f1 f2 f3
  exact ⟨⟨k, s, n0, n1, n2, n3⟩, at7o (.int .i64 k) (.int .i64 s) (.int .i64 n0) (.int .i64 n1) (.int .i64 n2) (.int .i64 n3) (.int .i64 n3), fun j hj => match j, hj with
   | 0, _ => rfl | 1, _ => rfl | 2, _ => rfl | 3, _ => rfl | 4, _ => rfl | 5, _ => rfl, rfl, rfl, rfl, rfl, rfl, rfl, i64_wf w0, i64_wf w1, i64_wf w2, i64_wf w3, i64_wf w4, i64_wf w5⟩
theorem rws_of_trod (d : DataW H) (fuel : Nat) (v : Value) (ps : List MemPlace) (h : DataW.trod enc Tryz.prog W 0 (fun _ => true) true fuel 42 [v] = some (d, ps)) (hf : Fits Tryz.prog 42 d) :
  ∃ l, RepRws (fun k => k < W.heap.size) W l v := by
 obtain ⟨l, hl, -⟩ := slg_of_trod (RepRw (fun k => k < W.heap.size) W) ⟨0, 0, 0, 0, 0, 0⟩ Tryz.underlying42 cellsRw bytesRw (by omega) d fuel v ps h hf
  (fun d' fuel' cs' ps' _ h' _ => rw_of_trod d' fuel' cs' ps' h')
 exact ⟨l, hl⟩
set_option maxRecDepth 100000 in
theorem open_rwss {base : Nat} {v : Value} {d : DataW H} {p : List MemPlace} (hv : Value.okWide Tryz.prog W .any base 22 v) (h : DataW.Trod enc Tryz.prog W 0 (fun _ => true) true 22 v d p) (hf : Fits Tryz.prog 22 d) :
  ∃ l, RepRwss (fun k => k < W.heap.size) W l v := by
 obtain ⟨a0, len, cap, rfl⟩ := okWide_slice Tryz.underlying22 hv;obtain ⟨fuel, hf'⟩ := h
 obtain ⟨l, hl, -⟩ := slg_of_trod (fun x c => RepRws (fun k => k < W.heap.size) W x (c 0)) [] Tryz.underlying22 cellsRws bytesRws (by omega) d fuel _ p (by simpa [Value.cells] using hf') hf
  (fun d' fuel' cs' ps' hs h' hf'' => by
   have hlen : cs'.length = 1 := by
    rcases open_slice Tryz.underlying42 h' with ⟨hcs, -⟩ | ⟨a, len, cap, mm, nf, D, Pl, hcs, -⟩ <;> rw [hcs] <;> rfl
   match cs', hlen with
   | [c], _ =>
    obtain ⟨l, hl⟩ := rws_of_trod d' fuel' c ps' h' hf''
    exact ⟨l, fun _ => c, fun j hj => match j, hj with
     | 0, _ => rfl, hl⟩)
 exact ⟨l, hl⟩
end
end Go.Proofs.YtjmnnjikmmglpaaGreat
