/-
  ScCheck, LocCheck
-/
import Derived.Test.YtjohcnhiblfbnaaGreatDoorC26
import Derived.Test.YtjohcnhiblfbnaaGreatDoorC23
namespace Go.Proofs.YtjohcnhiblfbnaaGreatDoor
open Go.RowKit
def rulesErr (ds : List De) : List Ru → Nat → Int × Int
 | [], _ => (0, -1)
 | r :: l, i => if ruleErr ds r = 0 then rulesErr ds l (i + 1) else (ruleErr ds r, i)
def checkZ (p : Pr) : Int × Int :=
 if prB p = true then
  (if onceB [] p.decls = true ∧ p.facts.all (factB p.decls) = true then rulesErr p.decls p.rules 0 else (60, -1))
 else (40, -1)
theorem ret_ii {a b : Int} {x : Int × Int} (h : x = (a, b)) : Ending.returned (.tuple #[.int .i64 a, .int .i64 b]) = .returned (.tuple #[.int .i64 x.1, .int .i64 x.2]) := by rw [h]
set_option maxRecDepth 100000 in
set_option maxHeartbeats 2000000 in
theorem check_any (p : Pr) (S : Nat → Prop) (w : World) (c0 c1 c2 : Value) (hS : ∀ k, S k → k < w.heap.size) (hp : RepPr S w p c0 c1 c2) :
  Calls Tryz.prog 19 #[.agg #[c0, c1, c2]] w fun e w' => e = .returned (.tuple #[.int .i64 (checkZ p).1, .int .i64 (checkZ p).2]) ∧ Below w.heap.size w w' := by
 have hlb := SlG.bytes hp.2.2
 have HP := Lib.hid hp; have HS := Lib.hid hS
 obtain ⟨f0, f1, rfl⟩ := SlG.form hp.1
 obtain ⟨f2, f3, rfl⟩ := SlG.form hp.2.1
 obtain ⟨f4, f5, rfl⟩ := SlG.form hp.2.2
 clear hp hS
 go_enter Tryz.func19, Tryz.ntmps19
 go_wp2_with fail
 have x0 := boxPr_new w (.slice f0 p.decls.length f1) (.slice f2 p.facts.length f3) (.slice f4 p.rules.length f5)
 have d0 := below_alloc w (.cells #[.slice f0 p.decls.length f1, .slice f2 p.facts.length f3, .slice f4 p.rules.length f5] 26)
 generalize w.alloc (.cells #[.slice f0 p.decls.length f1, .slice f2 p.facts.length f3, .slice f4 p.rules.length f5] 26) = w1 at *
 have X1 := Lib.hid x0; have B1 := Lib.hid d0
 have P1 := Lib.hid (RepPr.on (S' := fun k => k < w.heap.size) HS.out (fun k hk => d0.block k (HS.out k hk)) HP.out)
 clear x0 d0 HP HS
 obtain ⟨p0, p1, p2⟩ := X1.out.cells
 go_wp2_with fail
 refine (prRight_any p (fun k => k < w.heap.size) w1 _ _ _ (fun k hk => Nat.lt_of_lt_of_le hk B1.out.size) P1.out).mono ?_
 rintro e w2 ⟨rfl, hb⟩
 have X2 := Lib.hid (X1.out.on hb); have B2 := Lib.hid (Below.step B1.out hb)
 have P2 := Lib.hid (RepPr.on (fun _ h => h) (fun k (hk : k < w.heap.size) => hb.block k (Nat.lt_of_lt_of_le hk B1.out.size)) P1.out)
 clear hb p0 p1 p2 X1 B1 P1
 obtain ⟨p0, p1, p2⟩ := X2.out.cells
 cases hc1 : prB p with
 | false =>
  have HF : Hid (checkZ p = (40, -1)) := by show _ = _; rw [checkZ, hc1]; rfl
  clear hc1
  go_wp2_with fail
  go_ret2
  exact ⟨ret_ii HF.out, B2.out⟩
 | true =>
  have HC1 := Lib.hid hc1
  clear hc1
  go_wp2_with fail
  refine (once_any p.decls (fun k => k < w.heap.size) w2 _ (fun k hk => Nat.lt_of_lt_of_le hk B2.out.size) P2.out.1).mono ?_
  rintro e w3 ⟨rfl, hb⟩
  have X3 := Lib.hid (X2.out.on hb); have B3 := Lib.hid (Below.step B2.out hb)
  have P3 := Lib.hid (RepPr.on (fun _ h => h) (fun k (hk : k < w.heap.size) => hb.block k (Nat.lt_of_lt_of_le hk B2.out.size)) P2.out)
  clear hb p0 p1 p2 X2 B2 P2
  obtain ⟨p0, p1, p2⟩ := X3.out.cells
  cases hc2 : onceB [] p.decls with
  | false =>
   have HF : Hid (checkZ p = (60, -1)) := by show _ = _; rw [checkZ, HC1.out, hc2]; rfl
   clear hc2
   go_wp2_with fail
   go_ret2
   exact ⟨ret_ii HF.out, B3.out⟩
  | true =>
   have HC2 := Lib.hid hc2
   clear hc2
   go_wp2_with fail
   refine (factsFit_any p (fun k => k < w.heap.size) w3 _ _ _ (fun k hk => Nat.lt_of_lt_of_le hk B3.out.size) P3.out).mono ?_
   rintro e w4 ⟨rfl, hb⟩
   have X4 := Lib.hid (X3.out.on hb); have B4 := Lib.hid (Below.step B3.out hb)
   have P4 := Lib.hid (RepPr.on (fun _ h => h) (fun k (hk : k < w.heap.size) => hb.block k (Nat.lt_of_lt_of_le hk B3.out.size)) P3.out)
   clear hb p0 p1 p2 X3 B3 P3
   obtain ⟨p0, p1, p2⟩ := X4.out.cells
   cases hc3 : p.facts.all (factB p.decls) with
   | false =>
    have HF : Hid (checkZ p = (60, -1)) := by show _ = _; rw [checkZ, HC1.out, HC2.out, hc3]; rfl
    clear hc3
    go_wp2_with fail
    go_ret2
    exact ⟨ret_ii HF.out, B4.out⟩
   | true =>
    have HE : Hid (checkZ p = rulesErr p.decls p.rules 0) := by show _ = _; rw [checkZ, HC1.out, HC2.out, hc3]; rfl
    clear hc3 HC2
    have HRU : Hid (∀ x ∈ p.rules, ruB x = true) := by
     have h := HC1.out
     rw [prB] at h
     simp only [Bool.and_eq_true] at h
     exact (listB_bounds h.2.2).2.2
    clear HC1
    go_wp2_with fail
    clear p0 p1 p2
    go_loopw [22] (fun i wr => ∃ k : Nat, k ≤ p.rules.length ∧ i = .int .i64 k ∧ Hid (checkZ p = rulesErr p.decls (p.rules.drop k) k) ∧ Hid (Below w4.heap.size w4 wr)) (fun i _ => p.rules.length - (intOf i).toNat)
    case atStart => exact ⟨0, Nat.zero_le _, rfl, HE.out, Below.refl _ _⟩
    case round =>
     obtain ⟨k, hk, rfl, hrec, hbel⟩ := hrel
     by_cases hl : k < p.rules.length
     ·have P5 := Lib.hid (RepPr.on (fun _ h => h) (fun k (hk : k < w.heap.size) => hbel.out.block k (Nat.lt_of_lt_of_le hk B4.out.size)) P4.out)
      obtain ⟨-, -, lb, lo, xa, xc, ya, yc, rfl, hSb, g0, g1, g2, g3, g4, g5, g⟩ := RepRus.at P5.out.2.2 k hl
      have HD := Lib.hid (List.drop_eq_getElem_cons hl)
      have HRB := Lib.hid (HRU.out _ (List.getElem_mem hl))
      have G := Lib.hid g
      clear g hSb
      generalize p.rules[k] = r at *
      have hba := below_alloc wr (.cells #[.string r.label, .string r.head, .slice xa r.args.length xc, .string r.agg, .int .i64 r.at', .slice ya r.body.length yc] 43)
      have hbx := boxRu_new wr (.string r.label) (.string r.head) (.slice xa r.args.length xc) (.string r.agg) (.int .i64 r.at') (.slice ya r.body.length yc)
      have hws : w.heap.size ≤ wr.heap.size := Nat.le_trans B4.out.size hbel.out.size
      have HR := Lib.hid (RepRu.on (S' := fun k => k < w.heap.size) (fun _ h => h) (fun j hj => hba.block j (Nat.lt_of_lt_of_le hj hws)) G.out)
      have HP6 := Lib.hid (RepPr.on (fun _ h => h) (fun j (hj : j < w.heap.size) => hba.block j (Nat.lt_of_lt_of_le hj hws)) P5.out)
      have HB := Lib.hid (Below.step hbel.out hba)
      have HWS := Lib.hid (Nat.le_trans hws hba.size)
      obtain ⟨q0, q1, q2, q3, q4, q5⟩ := hbx.cells
      obtain ⟨p0, p1, p2⟩ := (X4.out.on HB.out).cells
      clear hba hbx hbel hws P5
      go_wp2_with fail
      clear g0 g1 g2 g3 g4 g5
      generalize wr.alloc (.cells #[.string r.label, .string r.head, .slice xa r.args.length xc, .string r.agg, .int .i64 r.at', .slice ya r.body.length yc] 43) = wa at *
      refine (checkRule_any p r (fun k => k < w.heap.size) wa _ _ _ _ _ _ _ _ _ (fun k hk => Nat.lt_of_lt_of_le hk HWS.out) HP6.out HR.out HRB.out).mono ?_
      rintro e w6 ⟨rfl, hb6⟩
      have HB6 := Lib.hid (Below.step HB.out hb6)
      clear hb6 q0 q1 q2 q3 q4 q5 p0 p1 p2
      by_cases hz : ruleErr p.decls r = 0
      ·have HF : Hid (checkZ p = rulesErr p.decls (p.rules.drop (k + 1)) (k + 1)) := by show _ = _; rw [hrec.out, HD.out, rulesErr, if_pos hz]
       rw [hz]
       clear hz
       go_wp2_with fail
       go_roundw
       case rel => exact ⟨k + 1, hl, by go_num, HF, HB6.out⟩
       case measure => simp [intOf]; omega
      ·have HF : Hid (checkZ p = (ruleErr p.decls r, (k : Int))) := by show _ = _; rw [hrec.out, HD.out, rulesErr, if_neg hz]
       obtain ⟨g, hg⟩ : ∃ g, ruleErr p.decls r = g := ⟨_, rfl⟩
       rw [hg] at hz HF ⊢
       have hz1 : (g == 0) = false := by simp [hz]
       clear hz hg
       go_wp2_with fail
       go_ret2
       exact ⟨ret_ii HF.out, Below.step B4.out HB6.out⟩
     ·have HF : Hid (checkZ p = (0, -1)) := by show _ = _; rw [hrec.out, List.drop_of_length_le (by omega), rulesErr]
      go_wp2_with fail
      go_ret2
      exact ⟨ret_ii HF.out, Below.step B4.out hbel.out⟩
end Go.Proofs.YtjohcnhiblfbnaaGreatDoor
namespace Go.Proofs.YtjohcnhiblfbnaaGreatDoor
open Go.RowKit
def locZ (p : Pr) : Int × Int := if (checkZ p).1 = 0 then placesErr p.rules 0 else checkZ p
set_option maxRecDepth 100000 in
set_option maxHeartbeats 4000000 in
theorem locCheck_any (p : Pr) (S : Nat → Prop) (w : World) (c0 c1 c2 : Value) (hS : ∀ k, S k → k < w.heap.size) (hg : 0 < w.heap.size) (htab : TabOk w) (hp : RepPr S w p c0 c1 c2) :
  Calls Tryz.prog 13 #[.agg #[c0, c1, c2]] w fun e w' => e = .returned (.tuple #[.int .i64 (locZ p).1, .int .i64 (locZ p).2]) ∧ Below w.heap.size w w' := by
 have hlb := SlG.bytes hp.2.2
 have HP := Lib.hid hp; have HS := Lib.hid hS; have HG := Lib.hid hg; have HT := Lib.hid htab
 obtain ⟨f0, f1, rfl⟩ := SlG.form hp.1
 obtain ⟨f2, f3, rfl⟩ := SlG.form hp.2.1
 obtain ⟨f4, f5, rfl⟩ := SlG.form hp.2.2
 clear hp hS hg htab
 go_enter Tryz.func13, Tryz.ntmps13
 go_upto_region 1 with fail
 have x0 := boxPr_new w (.slice f0 p.decls.length f1) (.slice f2 p.facts.length f3) (.slice f4 p.rules.length f5)
 have d0 := below_alloc w (.cells #[.slice f0 p.decls.length f1, .slice f2 p.facts.length f3, .slice f4 p.rules.length f5] 26)
 generalize w.alloc (.cells #[.slice f0 p.decls.length f1, .slice f2 p.facts.length f3, .slice f4 p.rules.length f5] 26) = w1 at *
 have X1 := Lib.hid x0; have B1 := Lib.hid d0
 clear x0 d0
 obtain ⟨p0, p1, p2⟩ := X1.out.cells
 go_wp2_with fail
 refine (check_any p S w1 _ _ _ (fun k hk => Nat.lt_of_lt_of_le (HS.out k hk) B1.out.size) (RepPr.on (fun _ h => h) (fun k hk => B1.out.block k (HS.out k hk)) HP.out)).mono ?_
 rintro e w2 ⟨rfl, hb⟩
 have X2 := Lib.hid (X1.out.on hb); have B2 := Lib.hid (Below.step B1.out hb)
 clear hb p0 p1 p2 X1 B1
 obtain ⟨p0, p1, p2⟩ := X2.out.cells
 have HLZ : Hid (locZ p = if (checkZ p).1 = 0 then placesErr p.rules 0 else checkZ p) := rfl
 generalize checkZ p = cz at *
 obtain ⟨ce, cn⟩ := cz
 by_cases hz : ce = 0
 ·have HE : Hid (locZ p = placesErr p.rules 0) := by show _ = _; rw [HLZ.out, if_pos hz]
  subst hz
  go_wp2_with fail
  clear p0 p1 p2
  go_loopw [22] (fun i wr => ∃ k : Nat, k ≤ p.rules.length ∧ i = .int .i64 k ∧ Hid (locZ p = placesErr (p.rules.drop k) k) ∧ Below w2.heap.size w2 wr) (fun i _ => p.rules.length - (intOf i).toNat)
  case atStart => exact ⟨0, Nat.zero_le _, rfl, HE.out, Below.refl _ _⟩
  case round =>
   obtain ⟨k, hk, rfl, hrec, hbel⟩ := hrel
   by_cases hl : k < p.rules.length
   ·have BW := Lib.hid (Below.step B2.out hbel)
    obtain ⟨-, -, lb, lo, xa, xc, ya, yc, rfl, hSb, g0, g1, g2, g3, g4, g5, g⟩ := RepRus.at (RepRus.on (fun _ h => h) (fun j hj => BW.out.block j (HS.out j hj)) HP.out.2.2) k hl
    have HD := Lib.hid (List.drop_eq_getElem_cons hl)
    have GR := Lib.hid g
    clear g hSb
    generalize p.rules[k] = r at *
    have hba := below_alloc wr (.cells #[.string r.label, .string r.head, .slice xa r.args.length xc, .string r.agg, .int .i64 r.at', .slice ya r.body.length yc] 43)
    have hbx := boxRu_new wr (.string r.label) (.string r.head) (.slice xa r.args.length xc) (.string r.agg) (.int .i64 r.at') (.slice ya r.body.length yc)
    have HB := Lib.hid (Below.step hbel hba)
    have HBW := Lib.hid (Below.step BW.out hba)
    have HR := Lib.hid (RepRu.on (fun _ h => h) (fun j hj => hba.block j (Nat.lt_of_lt_of_le (HS.out j hj) BW.out.size)) GR.out)
    obtain ⟨q0, q1, q2, q3, q4, q5⟩ := hbx.cells
    clear hba hbx hbel GR BW
    go_wp2_with fail
    clear g0 g1 g2 g3 g4 g5
    generalize wr.alloc (.cells #[.string r.label, .string r.head, .slice xa r.args.length xc, .string r.agg, .int .i64 r.at', .slice ya r.body.length yc] 43) = wa at *
    refine (locPlace_any r S wa _ _ _ _ _ _ (fun j hj => Nat.lt_of_lt_of_le (HS.out j hj) HBW.out.size) (Nat.lt_of_lt_of_le HG.out HBW.out.size) (TabOk.below HT.out HG.out HBW.out) HR.out).mono ?_
    rintro e w6 ⟨rfl, hb6⟩
    have HB6 := Lib.hid (Below.step HB.out hb6)
    have HPE : Hid (placesErr (r :: p.rules.drop (k + 1)) k = if (placeZ r).2 = true then placesErr (p.rules.drop (k + 1)) (k + 1) else (70, (k : Int))) := by show _ = _; rw [placesErr]
    clear hb6 q0 q1 q2 q3 q4 q5 HBW HR
    generalize hpz : placeZ r = pz at *
    clear hpz
    obtain ⟨⟨bf, bt, bh⟩, bok⟩ := pz
    rw [plRet]
    have hb7 := below_alloc w6 (.cells #[.string bf, .string bt, .string bh] 37)
    have HB7 := Lib.hid (Below.step HB6.out hb7)
    clear hb7
    cases bok with
    | true =>
     have HF : Hid (locZ p = placesErr (p.rules.drop (k + 1)) (k + 1)) := by show _ = _; rw [hrec.out, HD.out, HPE.out, if_pos rfl]
     go_wp2_with fail
     go_roundw
     case rel => exact ⟨k + 1, hl, by go_num, HF, HB7.out⟩
     case measure => simp [intOf]; omega
    | false =>
     have HF : Hid (locZ p = (70, (k : Int))) := by show _ = _; rw [hrec.out, HD.out, HPE.out, if_neg (by simp)]
     go_wp2_with fail
     go_ret2
     exact ⟨ret_ii HF.out, Below.step B2.out HB7.out⟩
   ·have HF : Hid (locZ p = (0, -1)) := by show _ = _; rw [hrec.out, List.drop_of_length_le (by omega), placesErr]
    go_wp2_with fail
    go_ret2
    exact ⟨ret_ii HF.out, Below.step B2.out hbel⟩
 ·have HE : Hid (locZ p = (ce, cn)) := by show _ = _; rw [HLZ.out, if_neg hz]
  have hz1 : (ce == 0) = false := by simp [hz]
  have hz2 : (ce != 0) = true := by simp [hz]
  clear hz
  go_wp2_with fail
  go_ret2
  exact ⟨ret_ii HE.out, B2.out⟩
end Go.Proofs.YtjohcnhiblfbnaaGreatDoor
