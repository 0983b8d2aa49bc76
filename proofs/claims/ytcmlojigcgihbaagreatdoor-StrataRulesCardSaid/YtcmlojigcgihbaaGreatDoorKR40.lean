/-
  LawTRules, OpenFour, OpenSix, CardTRules
-/
import Derived.Test.YtcmlojigcgihbaaGreatDoorKR29
import Derived.Test.YtcmlojigcgihbaaGreatDoorKR39
import Derived.Test.YtcmlojigcgihbaaGreatDoorKR04
import Derived.Deep.Strs
import Derived.Laws.IdiomArrays
namespace Go.Proofs.YtcmlojigcgihbaaGreatDoor.strataRules
open Go.RowKit
theorem count_step (g : Ru → Nat) (k : Nat) : ∀ l : List Ru, (l.filter fun r => decide (g r < k + 1)).length = (l.filter fun r => decide (g r < k)).length + (l.filter fun r => decide (g r = k)).length
 | [] => rfl
 | r :: l => by
  have ih := count_step g k l
  by_cases h1 : g r < k
  ·rw [List.filter_cons_of_pos (by simpa using (show g r < k + 1 by omega)), List.filter_cons_of_pos (by simpa using h1), List.filter_cons_of_neg (by simpa using (show g r ≠ k by omega))]
   simp only [List.length_cons]; omega
  ·by_cases h2 : g r = k
   ·rw [List.filter_cons_of_pos (by simpa using (show g r < k + 1 by omega)), List.filter_cons_of_neg (by simpa using h1), List.filter_cons_of_pos (by simpa using h2)]
    simp only [List.length_cons]; omega
   ·rw [List.filter_cons_of_neg (by simpa using (show ¬ g r < k + 1 by omega)), List.filter_cons_of_neg (by simpa using h1), List.filter_cons_of_neg (by simpa using h2)]
    exact ih
def cnt (p : Pr) (f : Nat → Nat) (k : Nat) : Nat := (p.rules.filter fun r => decide (f (atN p.decls r.head) + 1 < k)).length
theorem cnt_zero (p : Pr) (f : Nat → Nat) : cnt p f 0 = 0 := by
 rw [cnt, List.length_eq_zero_iff, List.filter_eq_nil_iff];intro r _; simp
theorem cnt_next (p : Pr) (f : Nat → Nat) (k : Nat) : cnt p f (k + 1) = cnt p f k + (rulesAt p f ((k : Int) - 1)).length := by
 have h := count_step (fun r => f (atN p.decls r.head) + 1) k p.rules;unfold cnt rulesAt;rw [h]
 congr 2
 apply List.filter_congr
 intro r _
 by_cases he : f (atN p.decls r.head) + 1 = k
 ·rw [decide_eq_true he, decide_eq_true (by omega)]
 ·rw [decide_eq_false he, decide_eq_false (by omega)]
theorem cnt_all {p : Pr} {f : Nat → Nat} (h : ∀ r ∈ p.rules, f (atN p.decls r.head) < 6) : cnt p f 9 = p.rules.length := by
 rw [cnt, List.filter_eq_self.2];intro r hr;have := h r hr;simp; omega
theorem cnt_le (p : Pr) (f : Nat → Nat) (k : Nat) : cnt p f k ≤ p.rules.length := List.length_filter_le _ _
theorem rulesAt_congr {p : Pr} {f g : Nat → Nat} (n : Int) (h : ∀ r ∈ p.rules, f (atN p.decls r.head) = g (atN p.decls r.head)) : rulesAt p f n = rulesAt p g n := by
 unfold rulesAt;exact List.filter_congr fun r hr => by rw [h r hr]
set_option maxRecDepth 100000 in
set_option maxHeartbeats 8000000 in
theorem walk (rules : List (List Rw)) (facts : List Rw) (W : World) (va vb : Value) (htab : TabOk W) (ga : RepRwss (fun k => k < W.heap.size) W rules va) (gb : RepRws (fun k => k < W.heap.size) W facts vb) :
  Calls Tryz.prog 5 #[va, vb] W fun e W' => e = .returned (.bool true) ∧ Below W.heap.size W W' := by
 have GA := Lib.hid ga; have GB := Lib.hid gb; have HT := Lib.hid htab; have HG : Hid (0 < W.heap.size) := tab_lt htab
 clear ga gb htab;go_enter Tryz.func5, Tryz.ntmps5
 go_wp2_with fail
 refine (awake8_any W).mono ?_;rintro e w1 ⟨rfl, hb⟩;have B1 := Lib.hid hb;clear hb;go_wp2_with fail
 refine (program_any rules facts (fun k => k < W.heap.size) w1 va vb (fun k hk => Nat.lt_of_lt_of_le hk B1.out.size) (SlG.on (fun _ h => h) (fun k hk => B1.out.block k hk) (fun x _ c h => SlG.on (fun _ h => h) (fun k hk => B1.out.block k hk) (fun _ _ _ h => h) h) GA.out) (SlG.on (fun _ h => h) (fun k hk => B1.out.block k hk) (fun _ _ _ h => h) GB.out)).mono ?_;rintro e w2 ⟨v0, v1, v2, rfl, hrep, hb⟩;have HDE : Hid ((progZ rules facts).decls = decls6) := rfl;have HLN : Hid ((progZ rules facts).rules.length ≤ 6) := by show _ ≤ _; show (rulesTo rules _).length ≤ 6; rw [rulesTo_len]; omega
 generalize progZ rules facts = q at *;obtain ⟨d0, d1, rfl⟩ := SlG.form hrep.1;obtain ⟨f0, f1, rfl⟩ := SlG.form hrep.2.1;obtain ⟨r0, r1, rfl⟩ := SlG.form hrep.2.2;have HRP := Lib.hid hrep; have B2 := Lib.hid (Below.step B1.out hb)
 clear hrep hb B1 GA GB;go_upto_region 3 with fail
 have mk := boxPr_new w2 (.slice d0 q.decls.length d1) (.slice f0 q.facts.length f1) (.slice r0 q.rules.length r1);have da := below_alloc w2 (.cells #[.slice d0 q.decls.length d1, .slice f0 q.facts.length f1, .slice r0 q.rules.length r1] 26);have sa := World.size_alloc w2 (.cells #[.slice d0 q.decls.length d1, .slice f0 q.facts.length f1, .slice r0 q.rules.length r1] 26);generalize w2.alloc (.cells #[.slice d0 q.decls.length d1, .slice f0 q.facts.length f1, .slice r0 q.rules.length r1] 26) = w3 at *;have GQ : Hid (RepPr (fun k => k < w2.heap.size) w3 q (.slice d0 q.decls.length d1) (.slice f0 q.facts.length f1) (.slice r0 q.rules.length r1)) := RepPr.on (fun k hk => hk.2) (fun k hk => da.block k hk.2) HRP.out;have B := Lib.hid (Below.step B2.out da);obtain ⟨k6, hk6⟩ : ∃ k, w2.heap.size = k := ⟨_, rfl⟩;rw [hk6] at mk GQ sa ⊢;have X := Lib.hid mk;have K : Hid (k6 < w3.heap.size) := by show _ < _; omega
 clear mk da sa hk6 HRP B2;obtain ⟨o0, o1, o2⟩ := X.out.cells;go_wp2_with fail
 refine (strata_any q (fun k => k < k6) w3 _ _ _ (fun k hk => Nat.lt_trans hk K.out) GQ.out).mono ?_;intro e w4 hs;obtain ⟨La, ca, va', rfl, hla, hra, hb⟩ := strata_rep hs;have HRA := Lib.hid hra;have HLA : Hid (RepIs (fun b => b < w4.heap.size) w4 La va') := RepIs.on (fun b hb => hb.2) (fun _ _ => rfl) hla;replace X := Lib.hid (X.out.on hb);replace GQ : Hid (RepPr (fun k => k < k6) w4 q (.slice d0 q.decls.length d1) (.slice f0 q.facts.length f1) (.slice r0 q.rules.length r1)) := RepPr.on (fun _ h => h) (fun k hk => hb.block k (Nat.lt_trans hk K.out)) GQ.out;replace B := Lib.hid (Below.step B.out hb); replace K := Lib.hid (Nat.lt_of_lt_of_le K.out hb.size)
 clear hs hla hra hb o0 o1 o2;obtain ⟨o0, o1, o2⟩ := X.out.cells;go_wp2_with fail
 refine (locCheck_any q (fun k => k < k6) w4 _ _ _ (fun k hk => Nat.lt_trans hk K.out) (Nat.lt_of_lt_of_le HG.out B.out.size) (TabOk.below HT.out HG.out B.out) GQ.out).mono ?_;rintro e w5 ⟨rfl, hb⟩;replace HLA : Hid (RepIs (fun b => b < w5.heap.size) w5 La va') := RepIs.on (fun b h => Nat.lt_of_lt_of_le h hb.size) (fun b h => hb.block b h) HLA.out;replace X := Lib.hid (X.out.on hb);replace GQ : Hid (RepPr (fun k => k < k6) w5 q (.slice d0 q.decls.length d1) (.slice f0 q.facts.length f1) (.slice r0 q.rules.length r1)) := RepPr.on (fun _ h => h) (fun k hk => hb.block k (Nat.lt_trans hk K.out)) GQ.out;replace B := Lib.hid (Below.step B.out hb); replace K := Lib.hid (Nat.lt_of_lt_of_le K.out hb.size)
 clear hb o0 o1 o2;obtain ⟨o0, o1, o2⟩ := X.out.cells;go_wp2_with fail
 refine (strataCheck_any q (fun k => k < k6) w5 _ _ _ (fun k hk => Nat.lt_trans hk K.out) (Nat.lt_of_lt_of_le HG.out B.out.size) (TabOk.below HT.out HG.out B.out) GQ.out).mono ?_;rintro e w6 ⟨hb, hcase⟩;replace HLA : Hid (RepIs (fun b => b < w6.heap.size) w6 La va') := RepIs.on (fun b h => Nat.lt_of_lt_of_le h hb.size) (fun b h => hb.block b h) HLA.out;replace X := Lib.hid (X.out.on hb);replace GQ : Hid (RepPr (fun k => k < k6) w6 q (.slice d0 q.decls.length d1) (.slice f0 q.facts.length f1) (.slice r0 q.rules.length r1)) := RepPr.on (fun _ h => h) (fun k hk => hb.block k (Nat.lt_trans hk K.out)) GQ.out;replace B := Lib.hid (Below.step B.out hb); replace K := Lib.hid (Nat.lt_of_lt_of_le K.out hb.size)
 have hdm : ∃ d m : Int, e = .returned (.tuple #[.int .i64 d, .int .i64 m]) ∧ (((locZ q).1 ≠ 0 ∧ d = (locZ q).1 ∧ m = (locZ q).2) ∨ ((locZ q).1 = 0 ∧ d = ca ∧ m = -1)) := by
  rcases hcase with ⟨h1, h2⟩ | ⟨h1, L2, c2, h3, h2⟩
  ·exact ⟨_, _, h2, .inl ⟨h1, rfl, rfl⟩⟩
  ·obtain ⟨-, rfl⟩ := strata_fun HRA.out h3
   exact ⟨_, _, h2, .inr ⟨h1, rfl, rfl⟩⟩
 obtain ⟨d, m, rfl, hdm⟩ := hdm;have HDM := Lib.hid hdm;clear hb hcase hdm o0 o1 o2 HG HT;generalize locZ q = Z at *;obtain ⟨c, n⟩ := Z;go_upto_region 6 with fail
 go_cut [60] from 36 to 60 (fun s wx => s = .bool false ∧ w6 = wx)
 case first =>
  rcases HDM.out with ⟨h1, h2, h3⟩ | ⟨h1, h2, h3⟩
  ·subst h2 h3
   have e1 : (d != 0) = true := by simpa using h1
   have e2 : (d == 0) = false := by simpa using h1
   clear h1;go_wp2_with fail
   go_meet
   exact ⟨rfl, rfl⟩
  ·subst h1 h2 h3
   go_wp2_with fail
   go_meet
   exact ⟨rfl, rfl⟩
 case rest =>
  obtain ⟨rfl, rfl⟩ := hcut;clear HDM;go_wp2_with fail
  rcases HRA.out with ⟨hc, hl, hce⟩ | ⟨hc, hno, hl, hce⟩ | ⟨hc, f, hf, hl, hce⟩
  ·have HE : Hid (ca ≠ 0) := by show _ ≠ _; rw [hce]; exact hc
   have HNR : Hid ((checkZ q).1 ≠ 0 ∨ ¬ ∃ g, Sol (prSteps q) g) := .inl hc;clear hc hl hce;go_loopw [13, 14] (fun sv kv wr => ∃ kk : Nat, kk ≤ 9 ∧ kv = .int .i64 ((kk : Int) - 1) ∧ sv = .int .i64 0 ∧ Hid (Below w6.heap.size w6 wr)) (fun _ kv _ => 9 - (intOf kv + 1).toNat)
   case atStart => exact ⟨0, by omega, rfl, rfl, Lib.hid (Below.refl _ _)⟩
   case round =>
    obtain ⟨kk, hkk, rfl, rfl, hbel⟩ := hrel;have XR := Lib.hid (X.out.on hbel.out);have GR : Hid (RepPr (fun k => k < k6) wr q (.slice d0 q.decls.length d1) (.slice f0 q.facts.length f1) (.slice r0 q.rules.length r1)) := RepPr.on (fun _ h => h) (fun k hk => hbel.out.block k (Nat.lt_trans hk K.out)) GQ.out;obtain ⟨o0, o1, o2⟩ := XR.out.cells
    by_cases hk9 : kk < 9
    ·have hd : decide ((kk : Int) - 1 < 8) = true := decide_eq_true (by omega)
     go_wp2_with fail
     refine (strataRules_any q ((kk : Int) - 1) (fun k => k < k6) wr _ _ _ (fun k hk => Nat.lt_of_lt_of_le (Nat.lt_trans hk K.out) hbel.out.size) GR.out).mono ?_;rintro e w7 ⟨hb, ⟨-, rfl⟩ | ⟨hc, f2, v, hl, -, -⟩⟩
     ·have HB7 := Lib.hid (Below.step hbel.out hb)
      have hkk9 := hk9;clear hb o0 o1 o2 XR GR hd;go_wp2_with fail
      go_loopw [16] (fun iv wr => iv = .int .i64 0 ∧ wr = w7) (fun _ _ => 0)
      case atStart => exact ⟨rfl, rfl⟩
      case round =>
       obtain ⟨rfl, rfl⟩ := hrel;go_wp2_with fail
       go_roundw
       case rel => exact ⟨kk + 1, by omega, by go_num, rfl, HB7⟩
       case measure => simp [intOf]; omega
     ·rcases HNR.out with h | h
      ·exact absurd hc h
      ·exact absurd ⟨f2, hl.1⟩ h
    ·have hk10 : kk = 9 := by omega
     subst hk10;have B9 := Lib.hid (Below.step B.out hbel.out);have hce1 : (ca != 0) = true := by simpa using HE.out
     cases hsum : ((0 : Int) == (q.rules.length : Int)) with
     | true =>
      go_wp2_with fail
      go_ret
      exact ⟨rfl, B9.out⟩
     | false =>
      go_wp2_with fail
      go_ret
      exact ⟨rfl, B9.out⟩
  ·have HE : Hid (ca ≠ 0) := by show _ ≠ _; rw [hce]; decide
   have HNR : Hid ((checkZ q).1 ≠ 0 ∨ ¬ ∃ g, Sol (prSteps q) g) := .inr hno;clear hc hno hl hce;go_loopw [13, 14] (fun sv kv wr => ∃ kk : Nat, kk ≤ 9 ∧ kv = .int .i64 ((kk : Int) - 1) ∧ sv = .int .i64 0 ∧ Hid (Below w6.heap.size w6 wr)) (fun _ kv _ => 9 - (intOf kv + 1).toNat)
   case atStart => exact ⟨0, by omega, rfl, rfl, Lib.hid (Below.refl _ _)⟩
   case round =>
    obtain ⟨kk, hkk, rfl, rfl, hbel⟩ := hrel;have XR := Lib.hid (X.out.on hbel.out);have GR : Hid (RepPr (fun k => k < k6) wr q (.slice d0 q.decls.length d1) (.slice f0 q.facts.length f1) (.slice r0 q.rules.length r1)) := RepPr.on (fun _ h => h) (fun k hk => hbel.out.block k (Nat.lt_trans hk K.out)) GQ.out;obtain ⟨o0, o1, o2⟩ := XR.out.cells
    by_cases hk9 : kk < 9
    ·have hd : decide ((kk : Int) - 1 < 8) = true := decide_eq_true (by omega)
     go_wp2_with fail
     refine (strataRules_any q ((kk : Int) - 1) (fun k => k < k6) wr _ _ _ (fun k hk => Nat.lt_of_lt_of_le (Nat.lt_trans hk K.out) hbel.out.size) GR.out).mono ?_;rintro e w7 ⟨hb, ⟨-, rfl⟩ | ⟨hc, f2, v, hl, -, -⟩⟩
     ·have HB7 := Lib.hid (Below.step hbel.out hb)
      have hkk9 := hk9;clear hb o0 o1 o2 XR GR hd;go_wp2_with fail
      go_loopw [16] (fun iv wr => iv = .int .i64 0 ∧ wr = w7) (fun _ _ => 0)
      case atStart => exact ⟨rfl, rfl⟩
      case round =>
       obtain ⟨rfl, rfl⟩ := hrel;go_wp2_with fail
       go_roundw
       case rel => exact ⟨kk + 1, by omega, by go_num, rfl, HB7⟩
       case measure => simp [intOf]; omega
     ·rcases HNR.out with h | h
      ·exact absurd hc h
      ·exact absurd ⟨f2, hl.1⟩ h
    ·have hk10 : kk = 9 := by omega
     subst hk10;have B9 := Lib.hid (Below.step B.out hbel.out);have hce1 : (ca != 0) = true := by simpa using HE.out
     cases hsum : ((0 : Int) == (q.rules.length : Int)) with
     | true =>
      go_wp2_with fail
      go_ret
      exact ⟨rfl, B9.out⟩
     | false =>
      go_wp2_with fail
      go_ret
      exact ⟨rfl, B9.out⟩
  ·have HC := Lib.hid hc
   have HF := Lib.hid hf;have HIN := Lib.hid (steps_inside hc)
   have HFB : Hid (∀ r ∈ q.rules, atN q.decls r.head < 6 ∧ f (atN q.decls r.head) < 6) := fun r hr => by
    have h6 : q.decls.length = 6 := by rw [HDE.out]; rfl
    have h1 : atN q.decls r.head < 6 := by rw [HDE.out]; exact atN_six _
    have h2 := least_lt HIN.out HF.out (atN q.decls r.head) (by omega);exact ⟨h1, by omega⟩
   have HEQ : Hid (∀ g, LeastN q.decls.length (prSteps q) g → ∀ r ∈ q.rules, f (atN q.decls r.head) = g (atN q.decls r.head)) := fun g hg r hr => LeastN.same (fun _ => Iff.rfl) HF.out hg _ (by rw [HDE.out]; exact atN_six _)
   subst hce
   have HLAF : Hid (RepIs (fun b => b < w6.heap.size) w6 (numL f 6) va') := by
    have h := HLA.out;rw [hl, HDE.out] at h;exact h
   clear hc hf hl HLA HRA;obtain ⟨aa, ac, rfl⟩ := SlG.form HLAF.out;go_loopw [13, 14] (fun sv kv wr => ∃ kk : Nat, kk ≤ 9 ∧ kv = .int .i64 ((kk : Int) - 1) ∧ sv = .int .i64 (cnt q f kk : Int) ∧ Hid (Below w6.heap.size w6 wr)) (fun _ kv _ => 9 - (intOf kv + 1).toNat)
   case atStart => exact ⟨0, by omega, rfl, by rw [cnt_zero]; rfl, Lib.hid (Below.refl _ _)⟩
   case round =>
    obtain ⟨kk, hkk, rfl, rfl, hbel⟩ := hrel;have XR := Lib.hid (X.out.on hbel.out);have GR : Hid (RepPr (fun k => k < k6) wr q (.slice d0 q.decls.length d1) (.slice f0 q.facts.length f1) (.slice r0 q.rules.length r1)) := RepPr.on (fun _ h => h) (fun k hk => hbel.out.block k (Nat.lt_trans hk K.out)) GQ.out;obtain ⟨o0, o1, o2⟩ := XR.out.cells;have hcl := cnt_le q f kk;have hl6 := HLN.out
    by_cases hk9 : kk < 9
    ·have hd : decide ((kk : Int) - 1 < 8) = true := decide_eq_true (by omega)
     have HCN := Lib.hid (cnt_next q f kk);have hcl2 := cnt_le q f (kk + 1);rw [cnt_next] at hcl2;go_wp2_with fail
     refine (strataRules_any q ((kk : Int) - 1) (fun k => k < k6) wr _ _ _ (fun k hk => Nat.lt_of_lt_of_le (Nat.lt_trans hk K.out) hbel.out.size) GR.out).mono ?_;rintro e w7 ⟨hb, ⟨hno, -⟩ | ⟨hc, f2, v, hl, rfl, hrep⟩⟩
     ·rcases hno with h | h
      ·exact absurd HC.out h
      ·exact absurd ⟨f, HF.out.1⟩ h
     ·have HB7 := Lib.hid (Below.step hbel.out hb)
      have HRU : Hid (RepRus (fun b => b < w7.heap.size) w7 (rulesAt q f ((kk : Int) - 1)) v) := by
       show RepRus _ _ _ _
       rw [rulesAt_congr _ (HEQ.out f2 hl)];exact RepRus.on (fun b hb => hb.2) (fun _ _ => rfl) hrep
      have HMEM : Hid (∀ r ∈ rulesAt q f ((kk : Int) - 1), atN decls6 r.head < 6 ∧ (f (atN decls6 r.head) : Int) = (kk : Int) - 1) := fun r hr => by
       unfold rulesAt at hr;rw [List.mem_filter] at hr;have h1 := (HFB.out r hr.1).1;have h2 := hr.2;rw [HDE.out] at h1 h2;exact ⟨h1, by simpa using h2⟩
      have hkk9 := hk9;clear hb o0 o1 o2 XR GR hd hrep hl hc;generalize rulesAt q f ((kk : Int) - 1) = R at *;obtain ⟨ra, rcc, rfl⟩ := SlG.form HRU.out;generalize cnt q f kk = cc at *;go_wp2_with fail
      go_loopw [16] (fun iv wr => ∃ i : Nat, i ≤ R.length ∧ iv = .int .i64 (i : Int) ∧ Hid (Below w7.heap.size w7 wr)) (fun iv _ => R.length - (intOf iv).toNat)
      case atStart => exact ⟨0, Nat.zero_le _, rfl, Lib.hid (Below.refl _ _)⟩
      case round =>
       obtain ⟨i, hi, rfl, hb7⟩ := hrel
       by_cases hil : i < R.length
       ·obtain ⟨-, -, lb, lo, xa, xc, ya, yc, hra2, -, g0, g1, -, -, -, -, -⟩ := RepRus.at (RepRus.on (fun _ h => h) (fun b hb => hb7.out.block b hb) HRU.out) i hil
        subst hra2;obtain ⟨hm1, hm2⟩ := HMEM.out _ (List.getElem_mem hil);have HM1 := Lib.hid hm1; have HM2 := Lib.hid hm2
        have i1 : (0 : Int) ≤ (i : Int) := Int.natCast_nonneg _;have i2 : (i : Int) < (R.length : Int) := by omega
        clear hm1 hm2;generalize R[i].head = nm at *;go_wp2_with fail
        refine (index8_any nm wr).mono ?_;rintro e w9 ⟨rfl, hb⟩;have HB9 := Lib.hid (Below.step hb7.out hb);have hw9 := Below.step HB7.out HB9.out;generalize atN decls6 nm = A at *;have hlen : (numL f 6).length = 6 := numL_len f 6;obtain ⟨-, -, nb, no, hna, -, c9, hc9, hcx⟩ := SlG.at (RepIs.on (fun _ h => h) (fun b hb => hw9.block b hb) HLAF.out) A (by rw [hlen]; exact HM1.out);subst hna
        have u0 : w9.cell? ⟨nb, no + A, none⟩ = some (.int .i64 ((kk : Int) - 1)) := by
         have h := hc9 0 (by omega);rw [hcx, numL_at, HM2.out] at h
         simpa using h
        have j1 : (0 : Int) ≤ (A : Int) := Int.natCast_nonneg _;have j2 : (A : Int) < 6 := by have := HM1.out; omega
        have j3 : (A : Int) < ((numL f 6).length : Int) := by rw [hlen]; exact j2
        have hln := j3;clear hb hc9 hcx hw9 hlen;go_wp2_with fail
        go_roundw
        case rel => exact ⟨i + 1, hil, by go_num, HB9⟩
        case measure => simp [intOf]; omega
       ·have hil2 : i = R.length := by omega
        have HBN := Lib.hid (Below.step HB7.out hb7.out);subst hil2;go_wp2_with fail
        go_roundw
        case rel => exact ⟨kk + 1, by omega, by go_num, by rw [HCN.out]; go_num, HBN⟩
        case measure => simp [intOf]; omega
    ·have hk10 : kk = 9 := by omega
     subst hk10;have B9 := Lib.hid (Below.step B.out hbel.out);have HALL := cnt_all (p := q) (f := f) (fun r hr => (HFB.out r hr).2);rw [HALL];clear hcl HALL;go_wp2_with fail
     go_ret
     exact ⟨rfl, B9.out⟩
end Go.Proofs.YtcmlojigcgihbaaGreatDoor.strataRules
namespace Go.Proofs.YtcmlojigcgihbaaGreatDoor
open Go.ChangeShapes Go.WideShapes Go.ChangeAt Go.RowKit Go.Deep Go.Joins
section
variable {H : Type} {enc : TypeId × Value → H} {W : World}
theorem fits_slice {st et : TypeId} {bytes : Nat} (hu : Tryz.prog.underlying st = some (.slice et)) (hb : Tryz.prog.bytesOf et = bytes) {elems spare : List (DataW H)} (h : Fits Tryz.prog st (.slice elems spare)) : (elems.length + spare.length) * bytes ≤ 140737488351232 ∧ ∀ d ∈ elems, Fits Tryz.prog et d := by
 simp only [Fits, DataW.weights, hu, hb] at h
 refine ⟨h _ (List.mem_cons_self), fun d hd n hn => h n (List.mem_cons_of_mem _ (List.mem_append_left _ (weightsAll_mem hd n hn)))⟩
set_option maxRecDepth 100000 in
theorem slg_of_trod {α : Type} {st et : TypeId} {n bytes : Nat} (R : α → (Nat → Value) → Prop) (x0 : α) (hu : Tryz.prog.underlying st = some (.slice et)) (hc : Tryz.prog.cellsOf et = n) (hb : Tryz.prog.bytesOf et = bytes) (hn : 0 < n)
  (d : DataW H) (fuel : Nat) (v : Value) (ps : List MemPlace) (h : DataW.trod enc Tryz.prog W 0 (fun _ => true) true fuel st [v] = some (d, ps)) (hf : Fits Tryz.prog st d)
  (hel : ∀ (d' : DataW H) (fuel' : Nat) (cs : List Value) (ps' : List MemPlace), SizeOf.sizeOf d' < SizeOf.sizeOf d → DataW.trod enc Tryz.prog W 0 (fun _ => true) true fuel' et cs = some (d', ps') → Fits Tryz.prog et d' → ∃ (x : α) (c : Nat → Value), (∀ j, j < n → cs[j]? = some (c j)) ∧ R x c) :
  ∃ l, SlG (fun k => k < W.heap.size) W n bytes R l v ∧ l.length * bytes ≤ 140737488351232 := by
 rcases open_slice hu h with ⟨hcs, hx⟩ | ⟨a, len, cap, mm, nf, D, Pl, hcs, _, hl, hm, hmm, hx, hall⟩
 ·simp only [List.cons.injEq, and_true] at hcs
  subst hcs;exact ⟨[], ⟨none, 0, 0, 0, rfl, Nat.le_refl _, by simp, fun h => by omega, fun h => by simp at h, fun i hi => by simp at hi⟩, by simp⟩
 ·simp only [List.cons.injEq, and_true] at hcs
  subst hcs;simp only [if_true] at hmm
  subst hmm;simp only [Prod.mk.injEq] at hx
  obtain ⟨hd, _⟩ := hx;rw [hc] at hall;have hfv := hf;rw [hd] at hfv;obtain ⟨hcap, hfe⟩ := fits_slice hu hb hfv
  have hcap' : mm * bytes ≤ 140737488351232 := by
   simp only [List.length_map, List.length_range] at hcap
   have : len + (mm - len) = mm := by omega
   rw [this] at hcap;exact hcap
  have hsz : ∀ i, i < len → SizeOf.sizeOf (D i) < SizeOf.sizeOf d := fun i hi => by rw [hd]; exact sizeOf_mem hi
  have hspot : 0 < mm → a.spot = none := fun h0 => by
   obtain ⟨cs', g1, g2⟩ := hall 0 h0;obtain ⟨_, hlen, hcell⟩ := World.cells?_some g1;have hc0 : cs'[0]? = some (cs'[0]'(by omega)) := List.getElem?_eq_getElem _;have := World.cell?_spot ((hcell 0 hn).trans hc0)
   simpa [Addr.add] using this
  have key : ∀ i : Nat, ∃ p : α × (Nat → Value), i < len → (∀ j, j < n → W.cell? ⟨a.block, a.off + i * n + j, none⟩ = some (p.2 j)) ∧ R p.1 p.2 := by
   intro i
   by_cases hi : i < len
   ·obtain ⟨cs', g1, g2⟩ := hall i (by omega)
    obtain ⟨x, c, hcj, hr⟩ := hel (D i) nf cs' (Pl i) (hsz i hi) g2 (hfe _ (List.mem_map_of_mem (List.mem_range.2 hi)));obtain ⟨_, hlen, hcell⟩ := World.cells?_some g1;refine ⟨(x, c), fun _ => ⟨fun j hj => ?_, hr⟩⟩;have hs := hspot (by omega);have e := (hcell j hj).trans (hcj j hj);obtain ⟨ab, ao, sp⟩ := a;simp only at hs
    subst hs;have add0 : ∀ (b o j : Nat), ((⟨b, o, none⟩ : Addr).add j) = ⟨b, o + j, none⟩ := by intro b o j; unfold Addr.add; split <;> simp_all
    rw [add0, add0] at e;exact e
   ·exact ⟨(x0, fun _ => undef), fun h => absurd h hi⟩
  obtain ⟨X, hX⟩ := Classical.axiomOfChoice key;have hby : len * bytes ≤ mm * bytes := Nat.mul_le_mul_right _ hl;refine ⟨(List.range len).map (fun i => (X i).1), ⟨some a, a.block, a.off, mm, by simp, by simpa using hl, by simp; omega, fun h0 => ?_, fun h0 => ?_, fun i hi => ?_⟩, by simp; omega⟩
  ·have := hspot h0
   obtain ⟨b, o, sp⟩ := a;simp at this
   subst this;rfl
  ·simp at h0
   obtain ⟨q, _⟩ := hX 0 (by omega);exact cell_lt (a := ⟨a.block, _, none⟩) (q 0 hn)
  ·have hi' : i < len := by simpa using hi
   obtain ⟨q, hr⟩ := hX i hi';exact ⟨_, q, by rw [List.getElem_map, List.getElem_range]; exact hr⟩
def at7o (c0 c1 c2 c3 c4 c5 c6 : Value) : Nat → Value
 | 0 => c0 | 1 => c1 | 2 => c2 | 3 => c3 | 4 => c4 | 5 => c5 | _ => c6
end
end Go.Proofs.YtcmlojigcgihbaaGreatDoor
namespace Go.Proofs.YtcmlojigcgihbaaGreatDoor
open Go.ChangeShapes Go.WideShapes Go.ChangeAt Go.RowKit Go.Deep Go.Joins
theorem cellsRw : Tryz.prog.cellsOf 69 = 6 := by kernel_rfl
theorem bytesRw : Tryz.prog.bytesOf 69 = 48 := by kernel_rfl
theorem cellsRws : Tryz.prog.cellsOf 28 = 1 := by kernel_rfl
theorem bytesRws : Tryz.prog.bytesOf 28 = 24 := by kernel_rfl
theorem cellsN4 : Tryz.prog.cellsOf 67 = 4 := by kernel_rfl
section
variable {H : Type} {enc : TypeId × Value → H} {W : World}
set_option maxRecDepth 100000 in
theorem rw_of_trod (d : DataW H) (fuel : Nat) (cs : List Value) (ps : List MemPlace) (h : DataW.trod enc Tryz.prog W 0 (fun _ => true) true fuel 69 cs = some (d, ps)) :
  ∃ (x : Rw) (c : Nat → Value), (∀ j, j < 6 → cs[j]? = some (c j)) ∧ RepRw (fun k => k < W.heap.size) W x c := by
 obtain ⟨y0, y1, y2, n, hx, hlen, h0, h1, h2⟩ := trod_struct3 Tryz.underlying69 h;rw [cellsRw] at hlen
 match cs, hlen with
 | [c0, c1, c2, c3, c4, c5], _ =>
  simp [cellsInt] at h0
  simp [cellsInt] at h1
  simp [cellsN4] at h2
  obtain ⟨k, e0, r0, w0⟩ := DataW.trod_int Tryz.underlying3 h0;obtain ⟨s, e1, r1, w1⟩ := DataW.trod_int Tryz.underlying3 h1;obtain ⟨z0, z1, z2, z3, n', hx', q0, q1, q2, q3⟩ := trod_array4 Tryz.underlying67 cellsInt h2;obtain ⟨n0, f0, r2, w2⟩ := DataW.trod_int Tryz.underlying3 q0;obtain ⟨n1, f1, r3, w3⟩ := DataW.trod_int Tryz.underlying3 q1;obtain ⟨n2, f2, r4, w4⟩ := DataW.trod_int Tryz.underlying3 q2;obtain ⟨n3, f3, r5, w5⟩ := DataW.trod_int Tryz.underlying3 q3;simp at e0 e1 f0 f1 f2 f3
  subst e0 e1 f0 f1 f2 f3
  exact ⟨⟨k, s, n0, n1, n2, n3⟩, at7o (.int .i64 k) (.int .i64 s) (.int .i64 n0) (.int .i64 n1) (.int .i64 n2) (.int .i64 n3) (.int .i64 n3), fun j hj => match j, hj with
   | 0, _ => rfl | 1, _ => rfl | 2, _ => rfl | 3, _ => rfl | 4, _ => rfl | 5, _ => rfl, rfl, rfl, rfl, rfl, rfl, rfl, i64_wf w0, i64_wf w1, i64_wf w2, i64_wf w3, i64_wf w4, i64_wf w5⟩
theorem rws_of_trod (d : DataW H) (fuel : Nat) (v : Value) (ps : List MemPlace) (h : DataW.trod enc Tryz.prog W 0 (fun _ => true) true fuel 28 [v] = some (d, ps)) (hf : Fits Tryz.prog 28 d) :
  ∃ l, RepRws (fun k => k < W.heap.size) W l v := by
 obtain ⟨l, hl, -⟩ := slg_of_trod (RepRw (fun k => k < W.heap.size) W) ⟨0, 0, 0, 0, 0, 0⟩ Tryz.underlying28 cellsRw bytesRw (by omega) d fuel v ps h hf
  (fun d' fuel' cs' ps' _ h' _ => rw_of_trod d' fuel' cs' ps' h')
 exact ⟨l, hl⟩
set_option maxRecDepth 100000 in
theorem open_rws {base : Nat} {v : Value} {d : DataW H} {p : List MemPlace} (hv : Value.okWide Tryz.prog W .any base 28 v) (h : DataW.Trod enc Tryz.prog W 0 (fun _ => true) true 28 v d p) (hf : Fits Tryz.prog 28 d) :
  ∃ l, RepRws (fun k => k < W.heap.size) W l v := by
 obtain ⟨a0, len, cap, rfl⟩ := okWide_slice Tryz.underlying28 hv;obtain ⟨fuel, hf'⟩ := h;exact rws_of_trod d fuel _ p (by simpa [Value.cells] using hf') hf
set_option maxRecDepth 100000 in
theorem open_rwss {base : Nat} {v : Value} {d : DataW H} {p : List MemPlace} (hv : Value.okWide Tryz.prog W .any base 27 v) (h : DataW.Trod enc Tryz.prog W 0 (fun _ => true) true 27 v d p) (hf : Fits Tryz.prog 27 d) :
  ∃ l, RepRwss (fun k => k < W.heap.size) W l v := by
 obtain ⟨a0, len, cap, rfl⟩ := okWide_slice Tryz.underlying27 hv;obtain ⟨fuel, hf'⟩ := h
 obtain ⟨l, hl, -⟩ := slg_of_trod (fun x c => RepRws (fun k => k < W.heap.size) W x (c 0)) [] Tryz.underlying27 cellsRws bytesRws (by omega) d fuel _ p (by simpa [Value.cells] using hf') hf
  (fun d' fuel' cs' ps' hs h' hf'' => by
   have hlen : cs'.length = 1 := by
    rcases open_slice Tryz.underlying28 h' with ⟨hcs, -⟩ | ⟨a, len, cap, mm, nf, D, Pl, hcs, -⟩ <;> rw [hcs] <;> rfl
   match cs', hlen with
   | [c], _ =>
    obtain ⟨l, hl⟩ := rws_of_trod d' fuel' c ps' h' hf''
    exact ⟨l, fun _ => c, fun j hj => match j, hj with
     | 0, _ => rfl, hl⟩)
 exact ⟨l, hl⟩
end
end Go.Proofs.YtcmlojigcgihbaaGreatDoor
namespace Go.Proofs.YtcmlojigcgihbaaGreatDoor.strataRules
open Go.ChangeShapes Go.WideShapes Go.ChangeAt Go.RowKit
open Go.ChangeMaps (open_string)
set_option maxRecDepth 100000 in
theorem contract (H : Type) (enc : TypeId × Value → H) (W : World) (base : Nat) (args : Array Value) (ds gs : List (DataW H)) (before : List MemPlace)
  (hval : ∀ (j : Nat) t v, Tryz.f5.params[j]? = some t → args[j]? = some v → Value.okWide Tryz.prog W .any base t v)
  (hW : DataW.Whole enc Tryz.prog Tryz.f5.params.toList Rows.strataRulesSpec.vars false W args.toList ds gs before)
  (hz : (DataW.weightsEach Tryz.prog (Tryz.f5.params.toList ++ []) (ds ++ gs)).all (· ≤ reachBytes) = true) (hL : laidMet Tryz.prog Rows.strataRulesRow.laid W) :
  Calls Tryz.prog 5 args W fun e W' => ∃ v, e = .returned v ∧ Rows.strataRulesSpec.post enc Tryz.prog Tryz.f5 false true false false W args v W' := by
 have hW' := hW;obtain ⟨p, q, hA0, hV, rfl, hfz, hnd⟩ := hW;have hA : DataW.TrodAll enc Tryz.prog W 0 (fun _ => true) true Tryz.f5.params.toList args.toList ds p := hA0;clear hA0;rw [Tryz.params5] at hA hval hz;obtain ⟨v0, vs0, d0, ds0, p0, q0, hargs, rfl, rfl, h0, r0⟩ := trodAll_cons hA;obtain ⟨v1, vs1, d1, ds1, p1, q1, rfl, rfl, rfl, h1, r1⟩ := trodAll_cons r0;obtain ⟨rfl, rfl, rfl⟩ := trodAll_nil r1;obtain rfl : args = #[v0, v1] := by cases args; simp_all
 obtain ⟨rfl, rfl⟩ := trodVars_none hV;have htab : TabOk W := tabOk_of_laid hL (by simp [Rows.strataRulesRow]);have z0 : (DataW.weightsEach Tryz.prog [27, 28] [d0, d1]).all (· ≤ reachBytes) = true := by simpa using hz
 obtain ⟨f0, z1⟩ := fits_cons z0;obtain ⟨f1, z2⟩ := fits_cons z1;obtain ⟨x0, g0⟩ := open_rwss (hval 0 27 v0 rfl rfl) h0 f0;obtain ⟨x1, g1⟩ := open_rws (hval 1 28 v1 rfl rfl) h1 f1
 -- USE: walk DATA W CELLS htab FACTS
 refine (walk x0 x1 W v0 v1 htab g0 g1).mono fun e W' ⟨he, hb⟩ => ⟨_, he, law_post rfl (by kernel_rfl) (fun t ht => ?_) hW' rfl hb⟩
 rw [Tryz.params5] at ht;have ht' : t = 27 ∨ t = 28 := by simpa using ht
 rcases ht' with rfl | rfl <;> exact ⟨by kernel_rfl, of_decide_eq_true (by kernel_rfl)⟩
set_option maxRecDepth 100000 in
theorem laid_met (os : Os) : laidMet Tryz.prog Rows.strataRulesRow.laid ((laidWorld os).forCall (fun _ _ => 0) ⟨#[], #[.slice none 0 0, .slice none 0 0], []⟩).memory :=
 laidMet_of_run' 8 (by kernel_rfl) (by kernel_rfl)
set_option maxRecDepth 100000 in
theorem reads (os : Os) {H : Type} (enc : TypeId × Value → H) : ∃ places, DataW.whole enc Tryz.prog ((laidWorld os).forCall (fun _ _ => 0) ⟨#[], #[.slice none 0 0, .slice none 0 0], []⟩).memory Tryz.f5.params.toList Rows.strataRulesSpec.vars false (#[.slice none 0 0, .slice none 0 0] : Array Value).toList 8 = some ([.nil, .nil], [], places) :=
 ⟨[], by kernel_rfl⟩
set_option maxRecDepth 100000 in
theorem lifted (os : Os) (started : os.Started) (H : Type) (enc : TypeId × Value → H) (F : Stop.Interp) :
  ReturnsInHanded {} Tryz.checked os 5 .any ((OpenSpec.ofChange Rows.strataRulesSpec).preRow enc Tryz.prog Tryz.f5 Rows.strataRulesRow.domain false Rows.strataRulesRow.laid) (((OpenSpec.ofChange Rows.strataRulesSpec).at F).post enc Tryz.prog Tryz.f5 false true false false) := by
 obtain ⟨places, hx⟩ := reads os enc
 refine returnsInHanded_of_row (C := Tryz.checked) (s := OpenSpec.ofChange Rows.strataRulesSpec) own started (by kernel_rfl) Tryz.func5
  (witness_row_at (enc := enc) (C := Tryz.checked) false (laidWorld os) #[.slice none 0 0, .slice none 0 0] rfl (by kernel_rfl) (by kernel_rfl) (by kernel_rfl)
   (OpenSpec.preRow_of_cond 8 hx (by kernel_rfl) (fun k hk => by cases hk) (by kernel_rfl) (laid_met os))) ?_
 intro W base args ds gs before hval hW _ _ hz hL _ _;exact contract H enc W base args ds gs before hval hW hz hL
set_option maxRecDepth 100000 in
theorem said : Rows.StrataRulesSaid :=
 OpenClaim.holds_of_cond 5 Tryz.f5 rfl rfl rfl rfl rfl rfl rfl ⟨rfl, rfl, rfl, rfl, rfl⟩ rfl rfl rfl rfl rfl (by kernel_rfl) Tryz.func5 (by kernel_rfl)
  (of_decide_eq_true (by kernel_rfl)) (by unfold Func.isWrapper; first | (rw [if_pos (by decide +kernel)]; kernel_rfl) | (rw [if_neg (by decide +kernel)]; exact ⟨rfl, rfl⟩))
  (fun os started H enc _ F => by rw [OpenClaim.pre_eq_preRow]; exact lifted os started H enc F)
set_option maxRecDepth 100000 in
theorem plain (f : FuncId) (fn : Func) (hf : Tryz.pinned.checked.prog.funcNamed "beaconry/beaconrylaw08.StrataRules" = some f) (hfn : Tryz.pinned.checked.prog.funcs[f]? = some fn) :
  false = Tryz.pinned.checked.prog.looks [] ∧ ∀ (j : Nat) t, fn.params[j]? = some t → Tryz.pinned.checked.prog.wantsStandIn t = false := by
 obtain rfl : f = 5 := Option.some.inj ((show Tryz.prog.funcNamed "beaconry/beaconrylaw08.StrataRules" = some 5 by kernel_rfl).symm.trans hf) |>.symm;obtain rfl : fn = Tryz.f5 := (Option.some.inj (Tryz.func5.symm.trans hfn)).symm;refine ⟨by kernel_rfl, fun j t ht => ?_⟩;rw [Tryz.params5] at ht;have ht' : t = 27 ∨ t = 28 := by simpa using Array.mem_of_getElem? ht
 rcases ht' with rfl | rfl
 ·exact (show Tryz.prog.wantsStandIn 27 = false by kernel_rfl)
 ·exact (show Tryz.prog.wantsStandIn 28 = false by kernel_rfl)
set_option maxRecDepth 100000 in
theorem holds : Rows.StrataRulesCardSaid :=
 Claim7.holds_tied_plain_at .later [] _ _ _ _ said (fun _ h => by cases h) (by kernel_rfl) (fun _ h => by cases h) strataRules_row_tie rfl ⟨rfl, rfl⟩ (by kernel_rfl) rfl plain (by kernel_rfl)
#print axioms holds
end Go.Proofs.YtcmlojigcgihbaaGreatDoor.strataRules
