/-
  ScRule, ScCheck, SixLess, StrData
-/
import Derived.Test.YtjmnnjikmmglpaaGreatKF16
import Derived.Test.YtjmnnjikmmglpaaGreatKF19
import Derived.Test.YtjmnnjikmmglpaaGreatKF14
import Derived.Test.YtjmnnjikmmglpaaGreatKF03
import Derived.Deep.Cut
namespace Go.Proofs.YtjmnnjikmmglpaaGreat
open Go.RowKit
def goAll : List ByteArray → List Li → Int × List ByteArray
 | l, [] => (0, l)
 | l, z :: r => if goErr l z = 0 then goAll (goSet l z) r else (goErr l z, l)
def ruleErr (ds : List De) (r : Ru) : Int :=
 if (arityL ds r.head == (r.args.length : Int)) = true ∧ r.body.all (bodyLiB ds) = true then
  (if (goAll [] r.body).1 = 0 then (if (varsL r.args).all (inB (goAll [] r.body).2) = true then 0 else 61) else (goAll [] r.body).1)
 else 60
theorem li_few {z : Li} (h : liB z = true) : z.args.length ≤ 8 := by
 unfold liB at h
 split at h
 ·simp only [atomB, Bool.and_eq_true] at h
  have := (listB_bounds h.2.1).2.1;omega
 ·split at h
  ·simp only [atomB, Bool.and_eq_true] at h
   have := (listB_bounds h.2.1).2.1;omega
  ·split at h
   ·simp only [Bool.and_eq_true] at h
    have := (listB_bounds h.2).2.1;omega
   ·split at h
    ·simp only [Bool.and_eq_true] at h
     have := (listB_bounds h.2).2.1;omega
    ·cases h
theorem ru_few {r : Ru} (h : ruB r = true) : r.body.length ≤ 8 ∧ ∀ z ∈ r.body, z.args.length ≤ 8 := by
 simp only [ruB, Bool.and_eq_true] at h
 have hb := listB_bounds h.2.2.2;exact ⟨by omega, fun z hz => li_few (hb.2.2 z hz)⟩
set_option maxRecDepth 100000 in
set_option maxHeartbeats 2000000 in
theorem checkRule_any (p : Pr) (r : Ru) (S : Nat → Prop) (w : World) (c0 c1 c2 q0 q1 q2 q3 q4 q5 : Value) (hS : ∀ k, S k → k < w.heap.size) (hp : RepPr S w p c0 c1 c2) (hr : RepRu S w r q0 q1 q2 q3 q4 q5) (hru : ruB r = true) :
  Calls Tryz.prog 34 #[.agg #[c0, c1, c2], .agg #[q0, q1, q2, q3, q4, q5]] w fun e w' => e = .returned (.int .i64 (ruleErr p.decls r)) ∧ Below w.heap.size w w' := by
 have HFEW := Lib.hid (ru_few hru);have HP := Lib.hid hp; have HR := Lib.hid hr; have HS := Lib.hid hS
 obtain ⟨f0, f1, rfl⟩ := SlG.form hp.1;obtain ⟨f2, f3, rfl⟩ := SlG.form hp.2.1;obtain ⟨f4, f5, rfl⟩ := SlG.form hp.2.2;obtain ⟨xa, xc, ya, yc, rfl, rfl, rfl, rfl, rfl, rfl⟩ := RepRu.form hr;clear hp hr hS hru;have hmm := @run_makeMap Tryz.prog;go_enter Tryz.func34, Tryz.ntmps34
 go_wp2_with fail
 have x0 := boxPr_new w (.slice f0 p.decls.length f1) (.slice f2 p.facts.length f3) (.slice f4 p.rules.length f5);have d0 := below_alloc w (.cells #[.slice f0 p.decls.length f1, .slice f2 p.facts.length f3, .slice f4 p.rules.length f5] 28);have s0 := World.size_alloc w (.cells #[.slice f0 p.decls.length f1, .slice f2 p.facts.length f3, .slice f4 p.rules.length f5] 28);generalize w.alloc (.cells #[.slice f0 p.decls.length f1, .slice f2 p.facts.length f3, .slice f4 p.rules.length f5] 28) = w1 at *;have x1 := boxRu_new w1 (.string r.label) (.string r.head) (.slice xa r.args.length xc) (.string r.agg) (.int .i64 r.at') (.slice ya r.body.length yc);have d1 := below_alloc w1 (.cells #[.string r.label, .string r.head, .slice xa r.args.length xc, .string r.agg, .int .i64 r.at', .slice ya r.body.length yc] 47);generalize w1.alloc (.cells #[.string r.label, .string r.head, .slice xa r.args.length xc, .string r.agg, .int .i64 r.at', .slice ya r.body.length yc] 47) = w2 at *;rw [s0] at x1;have HB2 := Lib.hid (Below.step d0 d1);have X0 := Lib.hid (x0.on d1); have X1 := Lib.hid x1
 have HP2 := Lib.hid (RepPr.on (S' := fun k => k < w.heap.size) HS.out (fun k hk => HB2.out.block k (HS.out k hk)) HP.out);have HR2 := Lib.hid (RepRu.on (S' := fun k => k < w.heap.size) HS.out (fun k hk => HB2.out.block k (HS.out k hk)) HR.out);clear x0 x1 d0 d1 s0 HP HR HS;obtain ⟨p0, p1, p2⟩ := X0.out.cells;obtain ⟨q0, q1, q2, q3, q4, q5⟩ := X1.out.cells;go_wp2_with fail
 refine (fits_any p r.head (r.args.length : Int) (fun k => k < w.heap.size) w2 _ _ _ (fun k hk => Nat.lt_of_lt_of_le hk HB2.out.size) HP2.out).mono ?_;rintro e w3 ⟨rfl, hb⟩;have HB3 := Lib.hid (Below.step HB2.out hb);have X03 := Lib.hid (X0.out.on hb); have X13 := Lib.hid (X1.out.on hb)
 have HP3 := Lib.hid (RepPr.on (fun _ h => h) (fun k (hk : k < w.heap.size) => hb.block k (Nat.lt_of_lt_of_le hk HB2.out.size)) HP2.out);have HR3 := Lib.hid (RepRu.on (fun _ h => h) (fun k (hk : k < w.heap.size) => hb.block k (Nat.lt_of_lt_of_le hk HB2.out.size)) HR2.out);clear hb p0 p1 p2 q0 q1 q2 q3 q4 q5 X0 X1 HP2 HR2;obtain ⟨p0, p1, p2⟩ := X03.out.cells;obtain ⟨q0, q1, q2, q3, q4, q5⟩ := X13.out.cells
 cases hc1 : (arityL p.decls r.head == (r.args.length : Int)) with
 | false =>
  have HF : Hid (ruleErr p.decls r = 60) := by show _ = _; rw [ruleErr, hc1, if_neg (fun h => by cases h.1)]
  clear hc1;go_wp2_with fail
  go_ret
  exact ⟨ret_i HF.out.symm, HB3.out⟩
 | true =>
  have HC1 := Lib.hid hc1;clear hc1;go_wp2_with fail
  refine (bodyFits_any p r.body (fun k => k < w.heap.size) w3 _ _ _ _ (fun k hk => Nat.lt_of_lt_of_le hk HB3.out.size) HP3.out HR3.out.2.2.2.2.2.2.2.2.2).mono ?_;rintro e w4 ⟨rfl, hb⟩;have HB4 := Lib.hid (Below.step HB3.out hb);have X14 := Lib.hid (X13.out.on hb);have HR4 := Lib.hid (RepRu.on (fun _ h => h) (fun k (hk : k < w.heap.size) => hb.block k (Nat.lt_of_lt_of_le hk HB3.out.size)) HR3.out);clear hb p0 p1 p2 q0 q1 q2 q3 q4 q5 X03 X13 HP3 HR3;obtain ⟨q0, q1, q2, q3, q4, q5⟩ := X14.out.cells
  cases hc2 : r.body.all (bodyLiB p.decls) with
  | false =>
   have HF : Hid (ruleErr p.decls r = 60) := by show _ = _; rw [ruleErr, hc2, if_neg (fun h => by cases h.2)]
   clear hc2;go_wp2_with fail
   go_ret
   exact ⟨ret_i HF.out.symm, HB4.out⟩
  | true =>
   have HE : Hid (ruleErr p.decls r = if (goAll [] r.body).1 = 0 then (if (varsL r.args).all (inB (goAll [] r.body).2) = true then 0 else 61) else (goAll [] r.body).1) := by show _ = _; rw [ruleErr, if_pos ⟨HC1.out, hc2⟩]
   clear hc2 HC1;go_upto_region 4 with fail
   have hs5 := setAt_new w4;have hd5 := below_alloc w4 (.map #[] 0);generalize w4.alloc (.map #[] 0) = w5 at *;obtain ⟨b, hb⟩ : ∃ b, w4.heap.size = b := ⟨_, rfl⟩;have HW4 := Lib.hid (show w.heap.size ≤ b by rw [← hb]; exact HB4.out.size);have HX15 := Lib.hid (X14.out.on hd5);have HLB := Lib.hid (show w.heap.size + 1 < b by rw [← hb]; exact X14.out.lt);have HB5 := Lib.hid (Below.step HB4.out hd5);have HR5 := Lib.hid (RepRu.on (fun _ h => h) (fun k (hk : k < w.heap.size) => hd5.block k (Nat.lt_of_lt_of_le hk HB4.out.size)) HR4.out);rw [hb] at hs5 ⊢;have HS5 := Lib.hid hs5;clear hs5 hd5 hb X14 HR4 hmm q0 q1 q2 q3 q4 q5;obtain ⟨q0, q1, q2, q3, q4, q5⟩ := HX15.out.cells;have hlb := SlG.bytes HR5.out.2.2.2.2.2.2.2.2.2;go_wp2_with fail
   clear q0 q1 q2 q3 q4 q5;go_loopw [28] (fun i wr => ∃ (k : Nat) (l : List ByteArray), k ≤ r.body.length ∧ i = .int .i64 k ∧ Hid (goAll [] r.body = goAll l (r.body.drop k)) ∧ Hid (SetAt wr b (9 * k) l) ∧ Hid (Below b w5 wr)) (fun i _ => r.body.length - (intOf i).toNat)
   case atStart => exact ⟨0, [], Nat.zero_le _, rfl, rfl, HS5.out, Below.refl _ _⟩
   case round =>
    obtain ⟨k, l, hk, rfl, hrec, hset, hbel⟩ := hrel;have hk8 := HFEW.out.1;have hsz : b < wr.heap.size := hset.out.lt
    by_cases hl : k < r.body.length
    ·have hA := (RepLis.on (fun _ h => h) (fun j (hj : j < w.heap.size) => hbel.out.block j (Nat.lt_of_lt_of_le hj HW4.out)) HR5.out.2.2.2.2.2.2.2.2.2 : RepLis (fun k => k < w.heap.size) wr r.body (.slice ya r.body.length yc))
     obtain ⟨-, -, lb, lo, ga, gc, rfl, hSb, g0, g1, g2, g⟩ := RepLis.at hA k hl;have HD := Lib.hid (List.drop_eq_getElem_cons hl);have HA8 := Lib.hid (HFEW.out.2 _ (List.getElem_mem hl));have G := Lib.hid g;clear g hSb hA;generalize r.body[k] = z at *;have hba := below_alloc wr (.cells #[.int .i64 z.kind, .string z.name, .slice ga z.args.length gc] 60);have hbx := boxLi_new wr (.int .i64 z.kind) (.string z.name) (.slice ga z.args.length gc);have hws : w.heap.size ≤ wr.heap.size := Nat.le_trans HW4.out (Nat.le_of_lt hsz);have HZ := Lib.hid (RepLi.on (S' := fun k => k < w.heap.size) (fun _ h => h) (fun j hj => hba.block j (Nat.lt_of_lt_of_le hj hws)) G.out);have HB := Lib.hid (hbel.out.trans (hba.mono (Nat.le_of_lt hsz)));have HS1 := Lib.hid (hset.out.on hba);have HWS := Lib.hid (Nat.le_trans hws hba.size);obtain ⟨e0, e1, e2⟩ := hbx.cells;clear hba hbx hset hbel hws;go_wp2_with fail
     clear g0 g1 g2;generalize wr.alloc (.cells #[.int .i64 z.kind, .string z.name, .slice ga z.args.length gc] 60) = wa at *;refine (goOn_any b (9 * k) l z (fun k => k < w.heap.size) wa _ _ _ (by omega) HA8.out (fun k hk => ⟨Nat.lt_of_lt_of_le hk HWS.out, by have := HW4.out; omega⟩) HS1.out HZ.out).mono ?_;rintro e w6 ⟨rfl, hg6, hs6⟩;have HB6 := Lib.hid (HB.out.grown hg6 (Nat.le_of_lt HS1.out.lt) (fun j e => by cases e; exact Nat.le_refl _));have HS6 := Lib.hid hs6;clear hg6 hs6 e0 e1 e2
     by_cases hz : goErr l z = 0
     ·have HS7 : Hid (SetAt w6 b (9 * (k + 1)) (goSet l z)) := (HS6.out hz).mono (by have := HA8.out; omega)
      have HF : Hid (goAll [] r.body = goAll (goSet l z) (r.body.drop (k + 1))) := by show _ = _; rw [hrec.out, HD.out, goAll, if_pos hz]
      rw [hz];clear hz HS6;go_wp2_with fail
      go_roundw
      case rel => exact ⟨k + 1, _, hl, by go_num, HF, HS7, HB6.out⟩
      case measure => simp [intOf]; omega
     ·have HF : Hid (ruleErr p.decls r = goErr l z) := by
       show _ = _
       have h1 : goAll [] r.body = (goErr l z, l) := by rw [hrec.out, HD.out, goAll, if_neg hz]
       rw [HE.out, h1, if_neg hz]
      obtain ⟨g, hg⟩ : ∃ g, goErr l z = g := ⟨_, rfl⟩;rw [hg] at hz ⊢;have HG := Lib.hid hg;have hz1 : (g == 0) = false := by simp [hz]
      clear hz hg HS6;go_wp2_with fail
      go_ret
      exact ⟨ret_i (by rw [HF.out, HG.out]), HB5.out.trans (HB6.out.mono HW4.out)⟩
    ·have HG : Hid (goAll [] r.body = (0, l)) := by show _ = _; rw [hrec.out, List.drop_of_length_le (by omega), goAll]
     have HE2 : Hid (ruleErr p.decls r = if (varsL r.args).all (inB l) = true then 0 else 61) := by show _ = _; rw [HE.out, HG.out]; simp
     have X16 : BoxRu wr (w.heap.size + 1) _ _ _ _ _ _ := (hbel.out.block (w.heap.size + 1) HLB.out).trans HX15.out;obtain ⟨q0, q1, q2, q3, q4, q5⟩ := X16.cells;have HR6 := Lib.hid (RepRu.on (fun _ h => h) (fun j (hj : j < w.heap.size) => hbel.out.block j (Nat.lt_of_lt_of_le hj HW4.out)) HR5.out);have HX16 := Lib.hid X16;clear X16;go_wp2_with fail
     refine (all_any b (9 * k) l r.args (fun k => k < w.heap.size) wr _ (fun j hj => by have := HW4.out; omega) hset.out HR6.out.2.2.2.2.2.2.2.2.1).mono ?_;rintro e w7 ⟨rfl, hb7⟩;have HB7 := Lib.hid (HB5.out.trans ((hbel.out.trans (hb7.mono (Nat.le_of_lt hsz))).mono HW4.out));clear hb7 q0 q1 q2 q3 q4 q5
     cases hc : (varsL r.args).all (inB l) with
     | false =>
      have HF : Hid (ruleErr p.decls r = 61) := by show _ = _; rw [HE2.out, hc]; rfl
      clear hc;go_wp2_with fail
      go_ret
      exact ⟨ret_i HF.out.symm, HB7.out⟩
     | true =>
      have HF : Hid (ruleErr p.decls r = 0) := by show _ = _; rw [HE2.out, hc]; rfl
      clear hc;go_wp2_with fail
      go_ret
      exact ⟨ret_i HF.out.symm, HB7.out⟩
end Go.Proofs.YtjmnnjikmmglpaaGreat
namespace Go.Proofs.YtjmnnjikmmglpaaGreat
open Go.RowKit
def rulesErr (ds : List De) : List Ru → Nat → Int × Int
 | [], _ => (0, -1)
 | r :: l, i => if ruleErr ds r = 0 then rulesErr ds l (i + 1) else (ruleErr ds r, i)
def checkZ (p : Pr) : Int × Int :=
 if prB p = true then
  (if onceB [] p.decls = true ∧ p.facts.all (factB p.decls) = true then rulesErr p.decls p.rules 0 else (60, -1))
 else (40, -1)
theorem ret_ii {a b : Int} {x : Int × Int} (h : x = (a, b)) : Ending.returned (.tuple #[.int .i64 a, .int .i64 b]) = .returned (.tuple #[.int .i64 x.1, .int .i64 x.2]) := by rw [h]
set_option maxRecDepth 100000 in
set_option maxHeartbeats 2000000 in
theorem check_any (p : Pr) (S : Nat → Prop) (w : World) (c0 c1 c2 : Value) (hS : ∀ k, S k → k < w.heap.size) (hp : RepPr S w p c0 c1 c2) :
  Calls Tryz.prog 11 #[.agg #[c0, c1, c2]] w fun e w' => e = .returned (.tuple #[.int .i64 (checkZ p).1, .int .i64 (checkZ p).2]) ∧ Below w.heap.size w w' := by
 have hlb := SlG.bytes hp.2.2;have HP := Lib.hid hp; have HS := Lib.hid hS
 obtain ⟨f0, f1, rfl⟩ := SlG.form hp.1;obtain ⟨f2, f3, rfl⟩ := SlG.form hp.2.1;obtain ⟨f4, f5, rfl⟩ := SlG.form hp.2.2;clear hp hS;go_enter Tryz.func11, Tryz.ntmps11
 go_wp2_with fail
 have x0 := boxPr_new w (.slice f0 p.decls.length f1) (.slice f2 p.facts.length f3) (.slice f4 p.rules.length f5);have d0 := below_alloc w (.cells #[.slice f0 p.decls.length f1, .slice f2 p.facts.length f3, .slice f4 p.rules.length f5] 28);generalize w.alloc (.cells #[.slice f0 p.decls.length f1, .slice f2 p.facts.length f3, .slice f4 p.rules.length f5] 28) = w1 at *;have X1 := Lib.hid x0; have B1 := Lib.hid d0
 have P1 := Lib.hid (RepPr.on (S' := fun k => k < w.heap.size) HS.out (fun k hk => d0.block k (HS.out k hk)) HP.out);clear x0 d0 HP HS;obtain ⟨p0, p1, p2⟩ := X1.out.cells;go_wp2_with fail
 refine (prRight_any p (fun k => k < w.heap.size) w1 _ _ _ (fun k hk => Nat.lt_of_lt_of_le hk B1.out.size) P1.out).mono ?_;rintro e w2 ⟨rfl, hb⟩;have X2 := Lib.hid (X1.out.on hb); have B2 := Lib.hid (Below.step B1.out hb)
 have P2 := Lib.hid (RepPr.on (fun _ h => h) (fun k (hk : k < w.heap.size) => hb.block k (Nat.lt_of_lt_of_le hk B1.out.size)) P1.out);clear hb p0 p1 p2 X1 B1 P1;obtain ⟨p0, p1, p2⟩ := X2.out.cells
 cases hc1 : prB p with
 | false =>
  have HF : Hid (checkZ p = (40, -1)) := by show _ = _; rw [checkZ, hc1]; rfl
  clear hc1;go_wp2_with fail
  go_ret2
  exact ⟨ret_ii HF.out, B2.out⟩
 | true =>
  have HC1 := Lib.hid hc1;clear hc1;go_wp2_with fail
  refine (once_any p.decls (fun k => k < w.heap.size) w2 _ (fun k hk => Nat.lt_of_lt_of_le hk B2.out.size) P2.out.1).mono ?_;rintro e w3 ⟨rfl, hb⟩;have X3 := Lib.hid (X2.out.on hb); have B3 := Lib.hid (Below.step B2.out hb)
  have P3 := Lib.hid (RepPr.on (fun _ h => h) (fun k (hk : k < w.heap.size) => hb.block k (Nat.lt_of_lt_of_le hk B2.out.size)) P2.out);clear hb p0 p1 p2 X2 B2 P2;obtain ⟨p0, p1, p2⟩ := X3.out.cells
  cases hc2 : onceB [] p.decls with
  | false =>
   have HF : Hid (checkZ p = (60, -1)) := by show _ = _; rw [checkZ, HC1.out, hc2]; rfl
   clear hc2;go_wp2_with fail
   go_ret2
   exact ⟨ret_ii HF.out, B3.out⟩
  | true =>
   have HC2 := Lib.hid hc2;clear hc2;go_wp2_with fail
   refine (factsFit_any p (fun k => k < w.heap.size) w3 _ _ _ (fun k hk => Nat.lt_of_lt_of_le hk B3.out.size) P3.out).mono ?_;rintro e w4 ⟨rfl, hb⟩;have X4 := Lib.hid (X3.out.on hb); have B4 := Lib.hid (Below.step B3.out hb)
   have P4 := Lib.hid (RepPr.on (fun _ h => h) (fun k (hk : k < w.heap.size) => hb.block k (Nat.lt_of_lt_of_le hk B3.out.size)) P3.out);clear hb p0 p1 p2 X3 B3 P3;obtain ⟨p0, p1, p2⟩ := X4.out.cells
   cases hc3 : p.facts.all (factB p.decls) with
   | false =>
    have HF : Hid (checkZ p = (60, -1)) := by show _ = _; rw [checkZ, HC1.out, HC2.out, hc3]; rfl
    clear hc3;go_wp2_with fail
    go_ret2
    exact ⟨ret_ii HF.out, B4.out⟩
   | true =>
    have HE : Hid (checkZ p = rulesErr p.decls p.rules 0) := by show _ = _; rw [checkZ, HC1.out, HC2.out, hc3]; rfl
    clear hc3 HC2
    have HRU : Hid (∀ x ∈ p.rules, ruB x = true) := by
     have h := HC1.out;rw [prB] at h;simp only [Bool.and_eq_true] at h
     exact (listB_bounds h.2.2).2.2
    clear HC1;go_wp2_with fail
    clear p0 p1 p2;go_loopw [22] (fun i wr => ∃ k : Nat, k ≤ p.rules.length ∧ i = .int .i64 k ∧ Hid (checkZ p = rulesErr p.decls (p.rules.drop k) k) ∧ Hid (Below w4.heap.size w4 wr)) (fun i _ => p.rules.length - (intOf i).toNat)
    case atStart => exact ⟨0, Nat.zero_le _, rfl, HE.out, Below.refl _ _⟩
    case round =>
     obtain ⟨k, hk, rfl, hrec, hbel⟩ := hrel
     by_cases hl : k < p.rules.length
     ·have P5 := Lib.hid (RepPr.on (fun _ h => h) (fun k (hk : k < w.heap.size) => hbel.out.block k (Nat.lt_of_lt_of_le hk B4.out.size)) P4.out)
      obtain ⟨-, -, lb, lo, xa, xc, ya, yc, rfl, hSb, g0, g1, g2, g3, g4, g5, g⟩ := RepRus.at P5.out.2.2 k hl;have HD := Lib.hid (List.drop_eq_getElem_cons hl);have HRB := Lib.hid (HRU.out _ (List.getElem_mem hl));have G := Lib.hid g;clear g hSb;generalize p.rules[k] = r at *;have hba := below_alloc wr (.cells #[.string r.label, .string r.head, .slice xa r.args.length xc, .string r.agg, .int .i64 r.at', .slice ya r.body.length yc] 47);have hbx := boxRu_new wr (.string r.label) (.string r.head) (.slice xa r.args.length xc) (.string r.agg) (.int .i64 r.at') (.slice ya r.body.length yc);have hws : w.heap.size ≤ wr.heap.size := Nat.le_trans B4.out.size hbel.out.size;have HR := Lib.hid (RepRu.on (S' := fun k => k < w.heap.size) (fun _ h => h) (fun j hj => hba.block j (Nat.lt_of_lt_of_le hj hws)) G.out);have HP6 := Lib.hid (RepPr.on (fun _ h => h) (fun j (hj : j < w.heap.size) => hba.block j (Nat.lt_of_lt_of_le hj hws)) P5.out);have HB := Lib.hid (Below.step hbel.out hba);have HWS := Lib.hid (Nat.le_trans hws hba.size);obtain ⟨q0, q1, q2, q3, q4, q5⟩ := hbx.cells;obtain ⟨p0, p1, p2⟩ := (X4.out.on HB.out).cells;clear hba hbx hbel hws P5;go_wp2_with fail
      clear g0 g1 g2 g3 g4 g5;generalize wr.alloc (.cells #[.string r.label, .string r.head, .slice xa r.args.length xc, .string r.agg, .int .i64 r.at', .slice ya r.body.length yc] 47) = wa at *;refine (checkRule_any p r (fun k => k < w.heap.size) wa _ _ _ _ _ _ _ _ _ (fun k hk => Nat.lt_of_lt_of_le hk HWS.out) HP6.out HR.out HRB.out).mono ?_;rintro e w6 ⟨rfl, hb6⟩;have HB6 := Lib.hid (Below.step HB.out hb6);clear hb6 q0 q1 q2 q3 q4 q5 p0 p1 p2
      by_cases hz : ruleErr p.decls r = 0
      ·have HF : Hid (checkZ p = rulesErr p.decls (p.rules.drop (k + 1)) (k + 1)) := by show _ = _; rw [hrec.out, HD.out, rulesErr, if_pos hz]
       rw [hz];clear hz;go_wp2_with fail
       go_roundw
       case rel => exact ⟨k + 1, hl, by go_num, HF, HB6.out⟩
       case measure => simp [intOf]; omega
      ·have HF : Hid (checkZ p = (ruleErr p.decls r, (k : Int))) := by show _ = _; rw [hrec.out, HD.out, rulesErr, if_neg hz]
       obtain ⟨g, hg⟩ : ∃ g, ruleErr p.decls r = g := ⟨_, rfl⟩;rw [hg] at hz HF ⊢;have hz1 : (g == 0) = false := by simp [hz]
       clear hz hg;go_wp2_with fail
       go_ret2
       exact ⟨ret_ii HF.out, Below.step B4.out HB6.out⟩
     ·have HF : Hid (checkZ p = (0, -1)) := by show _ = _; rw [hrec.out, List.drop_of_length_le (by omega), rulesErr]
      go_wp2_with fail
      go_ret2
      exact ⟨ret_ii HF.out, Below.step B4.out hbel.out⟩
end Go.Proofs.YtjmnnjikmmglpaaGreat
namespace Go.Proofs.YtjmnnjikmmglpaaGreat
open Go.RowKit
end Go.Proofs.YtjmnnjikmmglpaaGreat
namespace Go.Proofs.YtjmnnjikmmglpaaGreat
def atO : List De → Nat → ByteArray → Option Nat
 | [], _, _ => none
 | d :: l, i, s => match atO l (i + 1) s with
  | some k => some k
  | none => if eqS d.name s = true then some i else none
def atN (l : List De) (s : ByteArray) : Nat := (atO l 0 s).getD 0
theorem atO_snoc (d : De) (s : ByteArray) : ∀ (l : List De) (i : Nat), atO (l ++ [d]) i s = if eqS d.name s = true then some (i + l.length) else atO l i s
 | [], i => by simp [atO]
 | x :: l, i => by
  rw [List.cons_append, atO, atO_snoc d s l (i + 1)]
  by_cases h : eqS d.name s = true
  ·simp only [if_pos h, List.length_cons]; rw [show i + 1 + l.length = i + (l.length + 1) by omega]
  ·simp only [if_neg h]; rw [atO]
theorem atO_lt (s : ByteArray) : ∀ (l : List De) (i k : Nat), atO l i s = some k → i ≤ k ∧ k < i + l.length
 | [], i, k, h => by simp [atO] at h
 | x :: l, i, k, h => by
  rw [atO] at h;have ih := atO_lt s l (i + 1)
  cases hc : atO l (i + 1) s with
  | some j =>
   rw [hc] at h ih; simp only [Option.some.injEq] at h; subst h
   have := ih j rfl;simp only [List.length_cons]; omega
  | none =>
   rw [hc] at h; simp only at h
   by_cases he : eqS x.name s = true
   ·rw [if_pos he] at h; simp only [Option.some.injEq] at h; subst h; simp only [List.length_cons]; omega
   ·rw [if_neg he] at h; cases h
theorem atO_of_arity (s : ByteArray) : ∀ (l : List De) (i : Nat), arityL l s ≠ 0 → ∃ k, atO l i s = some k
 | [], _, h => by simp [arityL] at h
 | x :: l, i, h => by
  rw [arityL] at h;rw [atO]
  cases hc : atO l (i + 1) s with
  | some j => exact ⟨j, rfl⟩
  | none =>
   by_cases he : eqS x.name s = true
   ·exact ⟨i, by simp only [if_pos he]⟩
   ·rw [if_neg he] at h
    obtain ⟨k, hk⟩ := atO_of_arity s l (i + 1) h;rw [hc] at hk; cases hk
theorem atN_lt {s : ByteArray} {l : List De} (h : arityL l s ≠ 0) : atN l s < l.length := by
 obtain ⟨k, hk⟩ := atO_of_arity s l 0 h;have := atO_lt s l 0 k hk;rw [atN, hk]; simp only [Option.getD_some]; omega
def riseOf (r : Ru) (z : Li) : Nat := if z.kind = 2 ∨ r.agg ≠ ⟨#[]⟩ then 1 else 0
def litSteps (ds : List De) (r : Ru) (z : Li) : List Stp := if z.kind = 1 ∨ z.kind = 2 then [⟨atN ds r.head, atN ds z.name, riseOf r z⟩] else []
def ruSteps (ds : List De) (r : Ru) : List Stp := r.body.flatMap (litSteps ds r)
def prSteps (p : Pr) : List Stp := p.rules.flatMap (ruSteps p.decls)
theorem rise_le (r : Ru) (z : Li) : riseOf r z ≤ 1 := by unfold riseOf; split <;> omega
theorem litSteps_le (ds : List De) (r : Ru) (z : Li) : (litSteps ds r z).length ≤ 1 := by unfold litSteps; split <;> simp
theorem flat_le {α β : Type} (f : α → List β) (n : Nat) : ∀ l : List α, (∀ x ∈ l, (f x).length ≤ n) → (l.flatMap f).length ≤ l.length * n
 | [], _ => by simp
 | x :: l, h => by
  have h1 := h x (by simp);have h2 := flat_le f n l fun y hy => h y (by simp [hy])
  simp only [List.flatMap_cons, List.length_append, List.length_cons, Nat.succ_mul]; omega
theorem ruSteps_le {ds : List De} {r : Ru} (h : ruB r = true) : (ruSteps ds r).length ≤ 8 := by
 rw [ruB] at h;simp only [Bool.and_eq_true] at h
 have := (listB_bounds h.2.2.2).2.1;have h2 := flat_le (litSteps ds r) 1 r.body fun z _ => litSteps_le ds r z
 unfold ruSteps; omega
theorem prSteps_le {p : Pr} (h : prB p = true) : (prSteps p).length ≤ 512 := by
 rw [prB] at h;simp only [Bool.and_eq_true] at h
 obtain ⟨-, h2, h3⟩ := listB_bounds h.2.2;have h4 := flat_le (ruSteps p.decls) 8 p.rules fun r hr => ruSteps_le (h3 r hr)
 unfold prSteps; omega
theorem rulesErr_all (ds : List De) : ∀ (l : List Ru) (i : Nat), (rulesErr ds l i).1 = 0 → ∀ r ∈ l, ruleErr ds r = 0
 | [], _, _, r, h => by cases h
 | x :: l, i, h, r, hr => by
  rw [rulesErr] at h
  by_cases he : ruleErr ds x = 0
  ·rw [if_pos he] at h
   rcases List.mem_cons.1 hr with rfl | hr
   ·exact he
   ·exact rulesErr_all ds l (i + 1) h r hr
  ·rw [if_neg he] at h; exact absurd h he
theorem check_zero {p : Pr} (h : (checkZ p).1 = 0) : prB p = true ∧ onceB [] p.decls = true ∧ p.facts.all (factB p.decls) = true ∧ ∀ r ∈ p.rules, ruleErr p.decls r = 0 := by
 rw [checkZ] at h
 by_cases h1 : prB p = true
 ·rw [if_pos h1] at h
  by_cases h2 : onceB [] p.decls = true ∧ p.facts.all (factB p.decls) = true
  ·rw [if_pos h2] at h
   exact ⟨h1, h2.1, h2.2, rulesErr_all _ _ _ h⟩
  ·rw [if_neg h2] at h; simp at h
 ·rw [if_neg h1] at h; simp at h
theorem ruleErr_zero {ds : List De} {r : Ru} (h : ruleErr ds r = 0) : arityL ds r.head = (r.args.length : Int) ∧ r.body.all (bodyLiB ds) = true := by
 rw [ruleErr] at h
 by_cases h1 : (arityL ds r.head == (r.args.length : Int)) = true ∧ r.body.all (bodyLiB ds) = true
 ·exact ⟨by simpa using h1.1, h1.2⟩
 ·rw [if_neg h1] at h; simp at h
theorem atomB_one {s : ByteArray} {l : List Tm} (h : atomB s l = true) : 1 ≤ l.length := by
 simp only [atomB, Bool.and_eq_true] at h
 have := (listB_bounds h.2.1).1;omega
theorem lit_at {ds : List De} {z : Li} (hl : liB z = true) (hb : bodyLiB ds z = true) (hk : z.kind = 1 ∨ z.kind = 2) : arityL ds z.name ≠ 0 := by
 rw [bodyLiB, if_pos hk] at hb;have hb' : arityL ds z.name = (z.args.length : Int) := by simpa using hb
 have h2 : atomB z.name z.args = true := by
  rw [liB] at hl;rcases hk with hk | hk
  ·rwa [if_pos hk] at hl
  ·rw [if_neg (by omega), if_pos hk] at hl; exact hl
 have := atomB_one h2;omega
theorem ru_at {ds : List De} {r : Ru} (hl : ruB r = true) (hb : ruleErr ds r = 0) : arityL ds r.head ≠ 0 := by
 rw [(ruleErr_zero hb).1];rw [ruB] at hl;simp only [Bool.and_eq_true] at hl
 have := atomB_one hl.2.1;omega
theorem ru_body {r : Ru} (hl : ruB r = true) : ∀ z ∈ r.body, liB z = true := by
 rw [ruB] at hl;simp only [Bool.and_eq_true] at hl
 exact (listB_bounds hl.2.2.2).2.2
theorem pr_rules {p : Pr} (h : prB p = true) : ∀ r ∈ p.rules, ruB r = true := by
 rw [prB] at h;simp only [Bool.and_eq_true] at h
 exact (listB_bounds h.2.2).2.2
theorem mem_steps {p : Pr} {s : Stp} : s ∈ prSteps p ↔ ∃ r ∈ p.rules, ∃ z ∈ r.body, (z.kind = 1 ∨ z.kind = 2) ∧ s = ⟨atN p.decls r.head, atN p.decls z.name, riseOf r z⟩ := by
 unfold prSteps ruSteps;simp only [List.mem_flatMap]
 constructor
 ·rintro ⟨r, hr, z, hz, h⟩
  unfold litSteps at h
  split at h
  ·next hk => exact ⟨r, hr, z, hz, hk, List.mem_singleton.1 h⟩
  ·cases h
 ·rintro ⟨r, hr, z, hz, hk, rfl⟩
  exact ⟨r, hr, z, hz, by rw [litSteps, if_pos hk]; simp⟩
theorem steps_inside {p : Pr} (h : (checkZ p).1 = 0) : Inside p.decls.length (prSteps p) := by
 obtain ⟨h1, -, -, h4⟩ := check_zero h;intro s hs;obtain ⟨r, hr, z, hz, hk, rfl⟩ := mem_steps.1 hs;have hru := pr_rules h1 r hr;have her := h4 r hr;exact ⟨atN_lt (ru_at hru her), atN_lt (lit_at (ru_body hru z hz) (List.all_eq_true.1 (ruleErr_zero her).2 z hz) hk), rise_le r z⟩
end Go.Proofs.YtjmnnjikmmglpaaGreat
