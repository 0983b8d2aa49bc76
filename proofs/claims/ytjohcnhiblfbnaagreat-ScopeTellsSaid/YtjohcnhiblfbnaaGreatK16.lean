/-
  ScRule
-/
import Derived.Test.YtjohcnhiblfbnaaGreatK13
import Derived.Test.YtjohcnhiblfbnaaGreatK15
import Derived.Deep.Cut
namespace Go.Proofs.YtjohcnhiblfbnaaGreat
open Go.RowKit
def goAll : List ByteArray → List Li → Int × List ByteArray
 | l, [] => (0, l)
 | l, z :: r => if goErr l z = 0 then goAll (goSet l z) r else (goErr l z, l)
def ruleErr (ds : List De) (r : Ru) : Int :=
 if (arityL ds r.head == (r.args.length : Int)) = true ∧ r.body.all (bodyLiB ds) = true then
  (if (goAll [] r.body).1 = 0 then (if (varsL r.args).all (inB (goAll [] r.body).2) = true then 0 else 61) else (goAll [] r.body).1)
 else 60
theorem li_few {z : Li} (h : liB z = true) : z.args.length ≤ 8 := by
 unfold liB at h
 split at h
 ·simp only [atomB, Bool.and_eq_true] at h
  have := (listB_bounds h.2.1).2.1;omega
 ·split at h
  ·simp only [atomB, Bool.and_eq_true] at h
   have := (listB_bounds h.2.1).2.1;omega
  ·split at h
   ·simp only [Bool.and_eq_true] at h
    have := (listB_bounds h.2).2.1;omega
   ·split at h
    ·simp only [Bool.and_eq_true] at h
     have := (listB_bounds h.2).2.1;omega
    ·cases h
theorem ru_few {r : Ru} (h : ruB r = true) : r.body.length ≤ 8 ∧ ∀ z ∈ r.body, z.args.length ≤ 8 := by
 simp only [ruB, Bool.and_eq_true] at h
 have hb := listB_bounds h.2.2.2;exact ⟨by omega, fun z hz => li_few (hb.2.2 z hz)⟩
set_option maxRecDepth 100000 in
set_option maxHeartbeats 2000000 in
theorem checkRule_any (p : Pr) (r : Ru) (S : Nat → Prop) (w : World) (c0 c1 c2 q0 q1 q2 q3 q4 q5 : Value) (hS : ∀ k, S k → k < w.heap.size) (hp : RepPr S w p c0 c1 c2) (hr : RepRu S w r q0 q1 q2 q3 q4 q5) (hru : ruB r = true) :
  Calls Tryz.prog 38 #[.agg #[c0, c1, c2], .agg #[q0, q1, q2, q3, q4, q5]] w fun e w' => e = .returned (.int .i64 (ruleErr p.decls r)) ∧ Below w.heap.size w w' := by
 have HFEW := Lib.hid (ru_few hru);have HP := Lib.hid hp; have HR := Lib.hid hr; have HS := Lib.hid hS
 obtain ⟨f0, f1, rfl⟩ := SlG.form hp.1;obtain ⟨f2, f3, rfl⟩ := SlG.form hp.2.1;obtain ⟨f4, f5, rfl⟩ := SlG.form hp.2.2;obtain ⟨xa, xc, ya, yc, rfl, rfl, rfl, rfl, rfl, rfl⟩ := RepRu.form hr;clear hp hr hS hru;have hmm := @run_makeMap Tryz.prog;go_enter Tryz.func38, Tryz.ntmps38
 go_wp2_with fail
 have x0 := boxPr_new w (.slice f0 p.decls.length f1) (.slice f2 p.facts.length f3) (.slice f4 p.rules.length f5);have d0 := below_alloc w (.cells #[.slice f0 p.decls.length f1, .slice f2 p.facts.length f3, .slice f4 p.rules.length f5] 26);have s0 := World.size_alloc w (.cells #[.slice f0 p.decls.length f1, .slice f2 p.facts.length f3, .slice f4 p.rules.length f5] 26);generalize w.alloc (.cells #[.slice f0 p.decls.length f1, .slice f2 p.facts.length f3, .slice f4 p.rules.length f5] 26) = w1 at *;have x1 := boxRu_new w1 (.string r.label) (.string r.head) (.slice xa r.args.length xc) (.string r.agg) (.int .i64 r.at') (.slice ya r.body.length yc);have d1 := below_alloc w1 (.cells #[.string r.label, .string r.head, .slice xa r.args.length xc, .string r.agg, .int .i64 r.at', .slice ya r.body.length yc] 61);generalize w1.alloc (.cells #[.string r.label, .string r.head, .slice xa r.args.length xc, .string r.agg, .int .i64 r.at', .slice ya r.body.length yc] 61) = w2 at *;rw [s0] at x1;have HB2 := Lib.hid (Below.step d0 d1);have X0 := Lib.hid (x0.on d1); have X1 := Lib.hid x1
 have HP2 := Lib.hid (RepPr.on (S' := fun k => k < w.heap.size) HS.out (fun k hk => HB2.out.block k (HS.out k hk)) HP.out);have HR2 := Lib.hid (RepRu.on (S' := fun k => k < w.heap.size) HS.out (fun k hk => HB2.out.block k (HS.out k hk)) HR.out);clear x0 x1 d0 d1 s0 HP HR HS;obtain ⟨p0, p1, p2⟩ := X0.out.cells;obtain ⟨q0, q1, q2, q3, q4, q5⟩ := X1.out.cells;go_wp2_with fail
 refine (fits_any p r.head (r.args.length : Int) (fun k => k < w.heap.size) w2 _ _ _ (fun k hk => Nat.lt_of_lt_of_le hk HB2.out.size) HP2.out).mono ?_;rintro e w3 ⟨rfl, hb⟩;have HB3 := Lib.hid (Below.step HB2.out hb);have X03 := Lib.hid (X0.out.on hb); have X13 := Lib.hid (X1.out.on hb)
 have HP3 := Lib.hid (RepPr.on (fun _ h => h) (fun k (hk : k < w.heap.size) => hb.block k (Nat.lt_of_lt_of_le hk HB2.out.size)) HP2.out);have HR3 := Lib.hid (RepRu.on (fun _ h => h) (fun k (hk : k < w.heap.size) => hb.block k (Nat.lt_of_lt_of_le hk HB2.out.size)) HR2.out);clear hb p0 p1 p2 q0 q1 q2 q3 q4 q5 X0 X1 HP2 HR2;obtain ⟨p0, p1, p2⟩ := X03.out.cells;obtain ⟨q0, q1, q2, q3, q4, q5⟩ := X13.out.cells
 cases hc1 : (arityL p.decls r.head == (r.args.length : Int)) with
 | false =>
  have HF : Hid (ruleErr p.decls r = 60) := by show _ = _; rw [ruleErr, hc1, if_neg (fun h => by cases h.1)]
  clear hc1;go_wp2_with fail
  go_ret
  exact ⟨ret_i HF.out.symm, HB3.out⟩
 | true =>
  have HC1 := Lib.hid hc1;clear hc1;go_wp2_with fail
  refine (bodyFits_any p r.body (fun k => k < w.heap.size) w3 _ _ _ _ (fun k hk => Nat.lt_of_lt_of_le hk HB3.out.size) HP3.out HR3.out.2.2.2.2.2.2.2.2.2).mono ?_;rintro e w4 ⟨rfl, hb⟩;have HB4 := Lib.hid (Below.step HB3.out hb);have X14 := Lib.hid (X13.out.on hb);have HR4 := Lib.hid (RepRu.on (fun _ h => h) (fun k (hk : k < w.heap.size) => hb.block k (Nat.lt_of_lt_of_le hk HB3.out.size)) HR3.out);clear hb p0 p1 p2 q0 q1 q2 q3 q4 q5 X03 X13 HP3 HR3;obtain ⟨q0, q1, q2, q3, q4, q5⟩ := X14.out.cells
  cases hc2 : r.body.all (bodyLiB p.decls) with
  | false =>
   have HF : Hid (ruleErr p.decls r = 60) := by show _ = _; rw [ruleErr, hc2, if_neg (fun h => by cases h.2)]
   clear hc2;go_wp2_with fail
   go_ret
   exact ⟨ret_i HF.out.symm, HB4.out⟩
  | true =>
   have HE : Hid (ruleErr p.decls r = if (goAll [] r.body).1 = 0 then (if (varsL r.args).all (inB (goAll [] r.body).2) = true then 0 else 61) else (goAll [] r.body).1) := by show _ = _; rw [ruleErr, if_pos ⟨HC1.out, hc2⟩]
   clear hc2 HC1;go_upto_region 4 with fail
   have hs5 := setAt_new w4;have hd5 := below_alloc w4 (.map #[] 0);generalize w4.alloc (.map #[] 0) = w5 at *;obtain ⟨b, hb⟩ : ∃ b, w4.heap.size = b := ⟨_, rfl⟩;have HW4 := Lib.hid (show w.heap.size ≤ b by rw [← hb]; exact HB4.out.size);have HX15 := Lib.hid (X14.out.on hd5);have HLB := Lib.hid (show w.heap.size + 1 < b by rw [← hb]; exact X14.out.lt);have HB5 := Lib.hid (Below.step HB4.out hd5);have HR5 := Lib.hid (RepRu.on (fun _ h => h) (fun k (hk : k < w.heap.size) => hd5.block k (Nat.lt_of_lt_of_le hk HB4.out.size)) HR4.out);rw [hb] at hs5 ⊢;have HS5 := Lib.hid hs5;clear hs5 hd5 hb X14 HR4 hmm q0 q1 q2 q3 q4 q5;obtain ⟨q0, q1, q2, q3, q4, q5⟩ := HX15.out.cells;have hlb := SlG.bytes HR5.out.2.2.2.2.2.2.2.2.2;go_wp2_with fail
   clear q0 q1 q2 q3 q4 q5;go_loopw [28] (fun i wr => ∃ (k : Nat) (l : List ByteArray), k ≤ r.body.length ∧ i = .int .i64 k ∧ Hid (goAll [] r.body = goAll l (r.body.drop k)) ∧ Hid (SetAt wr b (9 * k) l) ∧ Hid (Below b w5 wr)) (fun i _ => r.body.length - (intOf i).toNat)
   case atStart => exact ⟨0, [], Nat.zero_le _, rfl, rfl, HS5.out, Below.refl _ _⟩
   case round =>
    obtain ⟨k, l, hk, rfl, hrec, hset, hbel⟩ := hrel;have hk8 := HFEW.out.1;have hsz : b < wr.heap.size := hset.out.lt
    by_cases hl : k < r.body.length
    ·have hA := (RepLis.on (fun _ h => h) (fun j (hj : j < w.heap.size) => hbel.out.block j (Nat.lt_of_lt_of_le hj HW4.out)) HR5.out.2.2.2.2.2.2.2.2.2 : RepLis (fun k => k < w.heap.size) wr r.body (.slice ya r.body.length yc))
     obtain ⟨-, -, lb, lo, ga, gc, rfl, hSb, g0, g1, g2, g⟩ := RepLis.at hA k hl;have HD := Lib.hid (List.drop_eq_getElem_cons hl);have HA8 := Lib.hid (HFEW.out.2 _ (List.getElem_mem hl));have G := Lib.hid g;clear g hSb hA;generalize r.body[k] = z at *;have hba := below_alloc wr (.cells #[.int .i64 z.kind, .string z.name, .slice ga z.args.length gc] 63);have hbx := boxLi_new wr (.int .i64 z.kind) (.string z.name) (.slice ga z.args.length gc);have hws : w.heap.size ≤ wr.heap.size := Nat.le_trans HW4.out (Nat.le_of_lt hsz);have HZ := Lib.hid (RepLi.on (S' := fun k => k < w.heap.size) (fun _ h => h) (fun j hj => hba.block j (Nat.lt_of_lt_of_le hj hws)) G.out);have HB := Lib.hid (hbel.out.trans (hba.mono (Nat.le_of_lt hsz)));have HS1 := Lib.hid (hset.out.on hba);have HWS := Lib.hid (Nat.le_trans hws hba.size);obtain ⟨e0, e1, e2⟩ := hbx.cells;clear hba hbx hset hbel hws;go_wp2_with fail
     clear g0 g1 g2;generalize wr.alloc (.cells #[.int .i64 z.kind, .string z.name, .slice ga z.args.length gc] 63) = wa at *;refine (goOn_any b (9 * k) l z (fun k => k < w.heap.size) wa _ _ _ (by omega) HA8.out (fun k hk => ⟨Nat.lt_of_lt_of_le hk HWS.out, by have := HW4.out; omega⟩) HS1.out HZ.out).mono ?_;rintro e w6 ⟨rfl, hg6, hs6⟩;have HB6 := Lib.hid (HB.out.grown hg6 (Nat.le_of_lt HS1.out.lt) (fun j e => by cases e; exact Nat.le_refl _));have HS6 := Lib.hid hs6;clear hg6 hs6 e0 e1 e2
     by_cases hz : goErr l z = 0
     ·have HS7 : Hid (SetAt w6 b (9 * (k + 1)) (goSet l z)) := (HS6.out hz).mono (by have := HA8.out; omega)
      have HF : Hid (goAll [] r.body = goAll (goSet l z) (r.body.drop (k + 1))) := by show _ = _; rw [hrec.out, HD.out, goAll, if_pos hz]
      rw [hz];clear hz HS6;go_wp2_with fail
      go_roundw
      case rel => exact ⟨k + 1, _, hl, by go_num, HF, HS7, HB6.out⟩
      case measure => simp [intOf]; omega
     ·have HF : Hid (ruleErr p.decls r = goErr l z) := by
       show _ = _
       have h1 : goAll [] r.body = (goErr l z, l) := by rw [hrec.out, HD.out, goAll, if_neg hz]
       rw [HE.out, h1, if_neg hz]
      obtain ⟨g, hg⟩ : ∃ g, goErr l z = g := ⟨_, rfl⟩;rw [hg] at hz ⊢;have HG := Lib.hid hg;have hz1 : (g == 0) = false := by simp [hz]
      clear hz hg HS6;go_wp2_with fail
      go_ret
      exact ⟨ret_i (by rw [HF.out, HG.out]), HB5.out.trans (HB6.out.mono HW4.out)⟩
    ·have HG : Hid (goAll [] r.body = (0, l)) := by show _ = _; rw [hrec.out, List.drop_of_length_le (by omega), goAll]
     have HE2 : Hid (ruleErr p.decls r = if (varsL r.args).all (inB l) = true then 0 else 61) := by show _ = _; rw [HE.out, HG.out]; simp
     have X16 : BoxRu wr (w.heap.size + 1) _ _ _ _ _ _ := (hbel.out.block (w.heap.size + 1) HLB.out).trans HX15.out;obtain ⟨q0, q1, q2, q3, q4, q5⟩ := X16.cells;have HR6 := Lib.hid (RepRu.on (fun _ h => h) (fun j (hj : j < w.heap.size) => hbel.out.block j (Nat.lt_of_lt_of_le hj HW4.out)) HR5.out);have HX16 := Lib.hid X16;clear X16;go_wp2_with fail
     refine (all_any b (9 * k) l r.args (fun k => k < w.heap.size) wr _ (fun j hj => by have := HW4.out; omega) hset.out HR6.out.2.2.2.2.2.2.2.2.1).mono ?_;rintro e w7 ⟨rfl, hb7⟩;have HB7 := Lib.hid (HB5.out.trans ((hbel.out.trans (hb7.mono (Nat.le_of_lt hsz))).mono HW4.out));clear hb7 q0 q1 q2 q3 q4 q5
     cases hc : (varsL r.args).all (inB l) with
     | false =>
      have HF : Hid (ruleErr p.decls r = 61) := by show _ = _; rw [HE2.out, hc]; rfl
      clear hc;go_wp2_with fail
      go_ret
      exact ⟨ret_i HF.out.symm, HB7.out⟩
     | true =>
      have HF : Hid (ruleErr p.decls r = 0) := by show _ = _; rw [HE2.out, hc]; rfl
      clear hc;go_wp2_with fail
      go_ret
      exact ⟨ret_i HF.out.symm, HB7.out⟩
end Go.Proofs.YtjohcnhiblfbnaaGreat
