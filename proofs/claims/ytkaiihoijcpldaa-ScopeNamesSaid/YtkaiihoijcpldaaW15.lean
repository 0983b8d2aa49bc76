/-
  scope.checkRule: what is wrong with a rule that is right by the layers below.
-/
import Derived.Test.YtkaiihoijcpldaaW13
import Derived.Test.YtkaiihoijcpldaaW14
import Derived.Test.YtkaiihoijcpldaaW01
import Derived.Deep.Cut
import Derived.RangeFuncBox
import Derived.Maps.OwnIn
import Derived.Maps.AppendAt
namespace Go.Proofs.Ytkaiihoijcpldaa
open Go.RowKit

/-- The names bound behind so many literals; the first error. -/
def goAll : List ByteArray → List Li → Int × List ByteArray
  | l, [] => (0, l)
  | l, z :: r => if goErr l z = 0 then goAll (goSet l z) r else (goErr l z, l)
def ruleErr (ds : List De) (r : Ru) : Int :=
  if (arityL ds r.head == (r.args.length : Int)) = true ∧ r.body.all (bodyLiB ds) = true then
    (if (goAll [] r.body).1 = 0 then (if (varsL r.args).all (inB (goAll [] r.body).2) = true then 0 else 61) else (goAll [] r.body).1)
  else 60
theorem li_few {z : Li} (h : liB z = true) : z.args.length ≤ 8 := by
  unfold liB at h
  split at h
  · simp only [atomB, Bool.and_eq_true] at h
    have := (listB_bounds h.2.1).2.1
    omega
  · split at h
    · simp only [atomB, Bool.and_eq_true] at h
      have := (listB_bounds h.2.1).2.1
      omega
    · split at h
      · simp only [Bool.and_eq_true] at h
        have := (listB_bounds h.2).2.1
        omega
      · split at h
        · simp only [Bool.and_eq_true] at h
          have := (listB_bounds h.2).2.1
          omega
        · cases h
theorem ru_few {r : Ru} (h : ruB r = true) : r.body.length ≤ 8 ∧ ∀ z ∈ r.body, z.args.length ≤ 8 := by
  simp only [ruB, Bool.and_eq_true] at h
  have hb := listB_bounds h.2.2.2
  exact ⟨by omega, fun z hz => li_few (hb.2.2 z hz)⟩

set_option maxRecDepth 100000 in
set_option maxHeartbeats 2000000 in
theorem checkRule_any (p : Pr) (r : Ru) (S : Nat → Prop) (w : World) (c0 c1 c2 q0 q1 q2 q3 q4 q5 : Value) (hS : ∀ k, S k → k < w.heap.size) (hp : RepPr S w p c0 c1 c2) (hr : RepRu S w r q0 q1 q2 q3 q4 q5) (hru : ruB r = true) :
    Calls Try.prog 25 #[.agg #[c0, c1, c2], .agg #[q0, q1, q2, q3, q4, q5]] w fun e w' => e = .returned (.int .i64 (ruleErr p.decls r)) ∧ Below w.heap.size w w' := by
  have HFEW := Lib.hid (ru_few hru)
  have HP := Lib.hid hp; have HR := Lib.hid hr; have HS := Lib.hid hS
  obtain ⟨f0, f1, rfl⟩ := SlG.form hp.1
  obtain ⟨f2, f3, rfl⟩ := SlG.form hp.2.1
  obtain ⟨f4, f5, rfl⟩ := SlG.form hp.2.2
  obtain ⟨xa, xc, ya, yc, rfl, rfl, rfl, rfl, rfl, rfl⟩ := RepRu.form hr
  clear hp hr hS hru
  have hmm := @run_makeMap Try.prog
  go_enter Try.func25, Try.ntmps25
  go_wp2_with fail
  have x0 := boxPr_new w (.slice f0 p.decls.length f1) (.slice f2 p.facts.length f3) (.slice f4 p.rules.length f5)
  have d0 := below_alloc w (.cells #[.slice f0 p.decls.length f1, .slice f2 p.facts.length f3, .slice f4 p.rules.length f5] 29)
  have s0 := World.size_alloc w (.cells #[.slice f0 p.decls.length f1, .slice f2 p.facts.length f3, .slice f4 p.rules.length f5] 29)
  generalize w.alloc (.cells #[.slice f0 p.decls.length f1, .slice f2 p.facts.length f3, .slice f4 p.rules.length f5] 29) = w1 at *
  have x1 := boxRu_new w1 (.string r.label) (.string r.head) (.slice xa r.args.length xc) (.string r.agg) (.int .i64 r.at') (.slice ya r.body.length yc)
  have d1 := below_alloc w1 (.cells #[.string r.label, .string r.head, .slice xa r.args.length xc, .string r.agg, .int .i64 r.at', .slice ya r.body.length yc] 39)
  generalize w1.alloc (.cells #[.string r.label, .string r.head, .slice xa r.args.length xc, .string r.agg, .int .i64 r.at', .slice ya r.body.length yc] 39) = w2 at *
  rw [s0] at x1
  have HB2 := Lib.hid (Below.step d0 d1)
  have X0 := Lib.hid (x0.on d1); have X1 := Lib.hid x1
  have HP2 := Lib.hid (RepPr.on (S' := fun k => k < w.heap.size) HS.out (fun k hk => HB2.out.block k (HS.out k hk)) HP.out)
  have HR2 := Lib.hid (RepRu.on (S' := fun k => k < w.heap.size) HS.out (fun k hk => HB2.out.block k (HS.out k hk)) HR.out)
  clear x0 x1 d0 d1 s0 HP HR HS
  obtain ⟨p0, p1, p2⟩ := X0.out.cells
  obtain ⟨q0, q1, q2, q3, q4, q5⟩ := X1.out.cells
  go_wp2_with fail
  refine (fits_any p r.head (r.args.length : Int) (fun k => k < w.heap.size) w2 _ _ _ (fun k hk => Nat.lt_of_lt_of_le hk HB2.out.size) HP2.out).mono ?_
  rintro e w3 ⟨rfl, hb⟩
  have HB3 := Lib.hid (Below.step HB2.out hb)
  have X03 := Lib.hid (X0.out.on hb); have X13 := Lib.hid (X1.out.on hb)
  have HP3 := Lib.hid (RepPr.on (fun _ h => h) (fun k (hk : k < w.heap.size) => hb.block k (Nat.lt_of_lt_of_le hk HB2.out.size)) HP2.out)
  have HR3 := Lib.hid (RepRu.on (fun _ h => h) (fun k (hk : k < w.heap.size) => hb.block k (Nat.lt_of_lt_of_le hk HB2.out.size)) HR2.out)
  clear hb p0 p1 p2 q0 q1 q2 q3 q4 q5 X0 X1 HP2 HR2
  obtain ⟨p0, p1, p2⟩ := X03.out.cells
  obtain ⟨q0, q1, q2, q3, q4, q5⟩ := X13.out.cells
  cases hc1 : (arityL p.decls r.head == (r.args.length : Int)) with
  | false =>
    have HF : Hid (ruleErr p.decls r = 60) := by show _ = _; rw [ruleErr, hc1, if_neg (fun h => by cases h.1)]
    clear hc1
    go_wp2_with fail
    go_ret
    exact ⟨ret_i HF.out.symm, HB3.out⟩
  | true =>
    have HC1 := Lib.hid hc1
    clear hc1
    go_wp2_with fail
    refine (bodyFits_any p r.body (fun k => k < w.heap.size) w3 _ _ _ _ (fun k hk => Nat.lt_of_lt_of_le hk HB3.out.size) HP3.out HR3.out.2.2.2.2.2.2.2.2.2).mono ?_
    rintro e w4 ⟨rfl, hb⟩
    have HB4 := Lib.hid (Below.step HB3.out hb)
    have X14 := Lib.hid (X13.out.on hb)
    have HR4 := Lib.hid (RepRu.on (fun _ h => h) (fun k (hk : k < w.heap.size) => hb.block k (Nat.lt_of_lt_of_le hk HB3.out.size)) HR3.out)
    clear hb p0 p1 p2 q0 q1 q2 q3 q4 q5 X03 X13 HP3 HR3
    obtain ⟨q0, q1, q2, q3, q4, q5⟩ := X14.out.cells
    cases hc2 : r.body.all (bodyLiB p.decls) with
    | false =>
      have HF : Hid (ruleErr p.decls r = 60) := by show _ = _; rw [ruleErr, hc2, if_neg (fun h => by cases h.2)]
      clear hc2
      go_wp2_with fail
      go_ret
      exact ⟨ret_i HF.out.symm, HB4.out⟩
    | true =>
      have HE : Hid (ruleErr p.decls r = if (goAll [] r.body).1 = 0 then (if (varsL r.args).all (inB (goAll [] r.body).2) = true then 0 else 61) else (goAll [] r.body).1) := by show _ = _; rw [ruleErr, if_pos ⟨HC1.out, hc2⟩]
      clear hc2 HC1
      go_upto_region 4 with fail
      have hs5 := setAt_new w4
      have hd5 := below_alloc w4 (.map #[] 0)
      generalize w4.alloc (.map #[] 0) = w5 at *
      obtain ⟨b, hb⟩ : ∃ b, w4.heap.size = b := ⟨_, rfl⟩
      have HW4 := Lib.hid (show w.heap.size ≤ b by rw [← hb]; exact HB4.out.size)
      have HX15 := Lib.hid (X14.out.on hd5)
      have HLB := Lib.hid (show w.heap.size + 1 < b by rw [← hb]; exact X14.out.lt)
      have HB5 := Lib.hid (Below.step HB4.out hd5)
      have HR5 := Lib.hid (RepRu.on (fun _ h => h) (fun k (hk : k < w.heap.size) => hd5.block k (Nat.lt_of_lt_of_le hk HB4.out.size)) HR4.out)
      rw [hb] at hs5 ⊢
      have HS5 := Lib.hid hs5
      clear hs5 hd5 hb X14 HR4 hmm q0 q1 q2 q3 q4 q5
      obtain ⟨q0, q1, q2, q3, q4, q5⟩ := HX15.out.cells
      have hlb := SlG.bytes HR5.out.2.2.2.2.2.2.2.2.2
      go_wp2_with fail
      clear q0 q1 q2 q3 q4 q5
      go_loopw [28] (fun i wr => ∃ (k : Nat) (l : List ByteArray), k ≤ r.body.length ∧ i = .int .i64 k ∧ Hid (goAll [] r.body = goAll l (r.body.drop k)) ∧ Hid (SetAt wr b (9 * k) l) ∧ Hid (Below b w5 wr)) (fun i _ => r.body.length - (intOf i).toNat)
      case atStart => exact ⟨0, [], Nat.zero_le _, rfl, rfl, HS5.out, Below.refl _ _⟩
      case round =>
        obtain ⟨k, l, hk, rfl, hrec, hset, hbel⟩ := hrel
        have hk8 := HFEW.out.1
        have hsz : b < wr.heap.size := hset.out.lt
        by_cases hl : k < r.body.length
        · have hA := (RepLis.on (fun _ h => h) (fun j (hj : j < w.heap.size) => hbel.out.block j (Nat.lt_of_lt_of_le hj HW4.out)) HR5.out.2.2.2.2.2.2.2.2.2 : RepLis (fun k => k < w.heap.size) wr r.body (.slice ya r.body.length yc))
          obtain ⟨-, -, lb, lo, ga, gc, rfl, hSb, g0, g1, g2, g⟩ := RepLis.at hA k hl
          have HD := Lib.hid (List.drop_eq_getElem_cons hl)
          have HA8 := Lib.hid (HFEW.out.2 _ (List.getElem_mem hl))
          have G := Lib.hid g
          clear g hSb hA
          generalize r.body[k] = z at *
          have hba := below_alloc wr (.cells #[.int .i64 z.kind, .string z.name, .slice ga z.args.length gc] 42)
          have hbx := boxLi_new wr (.int .i64 z.kind) (.string z.name) (.slice ga z.args.length gc)
          have hws : w.heap.size ≤ wr.heap.size := Nat.le_trans HW4.out (Nat.le_of_lt hsz)
          have HZ := Lib.hid (RepLi.on (S' := fun k => k < w.heap.size) (fun _ h => h) (fun j hj => hba.block j (Nat.lt_of_lt_of_le hj hws)) G.out)
          have HB := Lib.hid (hbel.out.trans (hba.mono (Nat.le_of_lt hsz)))
          have HS1 := Lib.hid (hset.out.on hba)
          have HWS := Lib.hid (Nat.le_trans hws hba.size)
          obtain ⟨e0, e1, e2⟩ := hbx.cells
          clear hba hbx hset hbel hws
          go_wp2_with fail
          clear g0 g1 g2
          generalize wr.alloc (.cells #[.int .i64 z.kind, .string z.name, .slice ga z.args.length gc] 42) = wa at *
          refine (goOn_any b (9 * k) l z (fun k => k < w.heap.size) wa _ _ _ (by omega) HA8.out (fun k hk => ⟨Nat.lt_of_lt_of_le hk HWS.out, by have := HW4.out; omega⟩) HS1.out HZ.out).mono ?_
          rintro e w6 ⟨rfl, hg6, hs6⟩
          have HB6 := Lib.hid (HB.out.grown hg6 (Nat.le_of_lt HS1.out.lt) (fun j e => by cases e; exact Nat.le_refl _))
          have HS6 := Lib.hid hs6
          clear hg6 hs6 e0 e1 e2
          by_cases hz : goErr l z = 0
          · have HS7 : Hid (SetAt w6 b (9 * (k + 1)) (goSet l z)) := (HS6.out hz).mono (by have := HA8.out; omega)
            have HF : Hid (goAll [] r.body = goAll (goSet l z) (r.body.drop (k + 1))) := by show _ = _; rw [hrec.out, HD.out, goAll, if_pos hz]
            rw [hz]
            clear hz HS6
            go_wp2_with fail
            go_roundw
            case rel => exact ⟨k + 1, _, hl, by go_num, HF, HS7, HB6.out⟩
            case measure => simp [intOf]; omega
          · have HF : Hid (ruleErr p.decls r = goErr l z) := by
              show _ = _
              have h1 : goAll [] r.body = (goErr l z, l) := by rw [hrec.out, HD.out, goAll, if_neg hz]
              rw [HE.out, h1, if_neg hz]
            obtain ⟨g, hg⟩ : ∃ g, goErr l z = g := ⟨_, rfl⟩
            rw [hg] at hz ⊢
            have HG := Lib.hid hg
            have hz1 : (g == 0) = false := by simp [hz]
            clear hz hg HS6
            go_wp2_with fail
            go_ret
            exact ⟨ret_i (by rw [HF.out, HG.out]), HB5.out.trans (HB6.out.mono HW4.out)⟩
        · have HG : Hid (goAll [] r.body = (0, l)) := by show _ = _; rw [hrec.out, List.drop_of_length_le (by omega), goAll]
          have HE2 : Hid (ruleErr p.decls r = if (varsL r.args).all (inB l) = true then 0 else 61) := by show _ = _; rw [HE.out, HG.out]; simp
          have X16 : BoxRu wr (w.heap.size + 1) _ _ _ _ _ _ := (hbel.out.block (w.heap.size + 1) HLB.out).trans HX15.out
          obtain ⟨q0, q1, q2, q3, q4, q5⟩ := X16.cells
          have HR6 := Lib.hid (RepRu.on (fun _ h => h) (fun j (hj : j < w.heap.size) => hbel.out.block j (Nat.lt_of_lt_of_le hj HW4.out)) HR5.out)
          have HX16 := Lib.hid X16
          clear X16
          go_wp2_with fail
          refine (all_any b (9 * k) l r.args (fun k => k < w.heap.size) wr _ (fun j hj => by have := HW4.out; omega) hset.out HR6.out.2.2.2.2.2.2.2.2.1).mono ?_
          rintro e w7 ⟨rfl, hb7⟩
          have HB7 := Lib.hid (HB5.out.trans ((hbel.out.trans (hb7.mono (Nat.le_of_lt hsz))).mono HW4.out))
          clear hb7 q0 q1 q2 q3 q4 q5
          cases hc : (varsL r.args).all (inB l) with
          | false =>
            have HF : Hid (ruleErr p.decls r = 61) := by show _ = _; rw [HE2.out, hc]; rfl
            clear hc
            go_wp2_with fail
            go_ret
            exact ⟨ret_i HF.out.symm, HB7.out⟩
          | true =>
            have HF : Hid (ruleErr p.decls r = 0) := by show _ = _; rw [HE2.out, hc]; rfl
            clear hc
            go_wp2_with fail
            go_ret
            exact ⟨ret_i HF.out.symm, HB7.out⟩

end Go.Proofs.Ytkaiihoijcpldaa

/-
  scope.Check: what is wrong with a program, and in which rule.
-/
namespace Go.Proofs.Ytkaiihoijcpldaa
open Go.RowKit

def rulesErr (ds : List De) : List Ru → Nat → Int × Int
  | [], _ => (0, -1)
  | r :: l, i => if ruleErr ds r = 0 then rulesErr ds l (i + 1) else (ruleErr ds r, i)
def checkZ (p : Pr) : Int × Int :=
  if prB p = true then
    (if onceB [] p.decls = true ∧ p.facts.all (factB p.decls) = true then rulesErr p.decls p.rules 0 else (60, -1))
  else (40, -1)
theorem ret_ii {a b : Int} {x : Int × Int} (h : x = (a, b)) : Ending.returned (.tuple #[.int .i64 a, .int .i64 b]) = .returned (.tuple #[.int .i64 x.1, .int .i64 x.2]) := by rw [h]

set_option maxRecDepth 100000 in
set_option maxHeartbeats 2000000 in
theorem check_any (p : Pr) (S : Nat → Prop) (w : World) (c0 c1 c2 : Value) (hS : ∀ k, S k → k < w.heap.size) (hp : RepPr S w p c0 c1 c2) :
    Calls Try.prog 10 #[.agg #[c0, c1, c2]] w fun e w' => e = .returned (.tuple #[.int .i64 (checkZ p).1, .int .i64 (checkZ p).2]) ∧ Below w.heap.size w w' := by
  have hlb := SlG.bytes hp.2.2
  have HP := Lib.hid hp; have HS := Lib.hid hS
  obtain ⟨f0, f1, rfl⟩ := SlG.form hp.1
  obtain ⟨f2, f3, rfl⟩ := SlG.form hp.2.1
  obtain ⟨f4, f5, rfl⟩ := SlG.form hp.2.2
  clear hp hS
  go_enter Try.func10, Try.ntmps10
  go_wp2_with fail
  have x0 := boxPr_new w (.slice f0 p.decls.length f1) (.slice f2 p.facts.length f3) (.slice f4 p.rules.length f5)
  have d0 := below_alloc w (.cells #[.slice f0 p.decls.length f1, .slice f2 p.facts.length f3, .slice f4 p.rules.length f5] 29)
  generalize w.alloc (.cells #[.slice f0 p.decls.length f1, .slice f2 p.facts.length f3, .slice f4 p.rules.length f5] 29) = w1 at *
  have X1 := Lib.hid x0; have B1 := Lib.hid d0
  have P1 := Lib.hid (RepPr.on (S' := fun k => k < w.heap.size) HS.out (fun k hk => d0.block k (HS.out k hk)) HP.out)
  clear x0 d0 HP HS
  obtain ⟨p0, p1, p2⟩ := X1.out.cells
  go_wp2_with fail
  refine (prRight_any p (fun k => k < w.heap.size) w1 _ _ _ (fun k hk => Nat.lt_of_lt_of_le hk B1.out.size) P1.out).mono ?_
  rintro e w2 ⟨rfl, hb⟩
  have X2 := Lib.hid (X1.out.on hb); have B2 := Lib.hid (Below.step B1.out hb)
  have P2 := Lib.hid (RepPr.on (fun _ h => h) (fun k (hk : k < w.heap.size) => hb.block k (Nat.lt_of_lt_of_le hk B1.out.size)) P1.out)
  clear hb p0 p1 p2 X1 B1 P1
  obtain ⟨p0, p1, p2⟩ := X2.out.cells
  cases hc1 : prB p with
  | false =>
    have HF : Hid (checkZ p = (40, -1)) := by show _ = _; rw [checkZ, hc1]; rfl
    clear hc1
    go_wp2_with fail
    go_ret2
    exact ⟨ret_ii HF.out, B2.out⟩
  | true =>
    have HC1 := Lib.hid hc1
    clear hc1
    go_wp2_with fail
    refine (once_any p.decls (fun k => k < w.heap.size) w2 _ (fun k hk => Nat.lt_of_lt_of_le hk B2.out.size) P2.out.1).mono ?_
    rintro e w3 ⟨rfl, hb⟩
    have X3 := Lib.hid (X2.out.on hb); have B3 := Lib.hid (Below.step B2.out hb)
    have P3 := Lib.hid (RepPr.on (fun _ h => h) (fun k (hk : k < w.heap.size) => hb.block k (Nat.lt_of_lt_of_le hk B2.out.size)) P2.out)
    clear hb p0 p1 p2 X2 B2 P2
    obtain ⟨p0, p1, p2⟩ := X3.out.cells
    cases hc2 : onceB [] p.decls with
    | false =>
      have HF : Hid (checkZ p = (60, -1)) := by show _ = _; rw [checkZ, HC1.out, hc2]; rfl
      clear hc2
      go_wp2_with fail
      go_ret2
      exact ⟨ret_ii HF.out, B3.out⟩
    | true =>
      have HC2 := Lib.hid hc2
      clear hc2
      go_wp2_with fail
      refine (factsFit_any p (fun k => k < w.heap.size) w3 _ _ _ (fun k hk => Nat.lt_of_lt_of_le hk B3.out.size) P3.out).mono ?_
      rintro e w4 ⟨rfl, hb⟩
      have X4 := Lib.hid (X3.out.on hb); have B4 := Lib.hid (Below.step B3.out hb)
      have P4 := Lib.hid (RepPr.on (fun _ h => h) (fun k (hk : k < w.heap.size) => hb.block k (Nat.lt_of_lt_of_le hk B3.out.size)) P3.out)
      clear hb p0 p1 p2 X3 B3 P3
      obtain ⟨p0, p1, p2⟩ := X4.out.cells
      cases hc3 : p.facts.all (factB p.decls) with
      | false =>
        have HF : Hid (checkZ p = (60, -1)) := by show _ = _; rw [checkZ, HC1.out, HC2.out, hc3]; rfl
        clear hc3
        go_wp2_with fail
        go_ret2
        exact ⟨ret_ii HF.out, B4.out⟩
      | true =>
        have HE : Hid (checkZ p = rulesErr p.decls p.rules 0) := by show _ = _; rw [checkZ, HC1.out, HC2.out, hc3]; rfl
        clear hc3 HC2
        have HRU : Hid (∀ x ∈ p.rules, ruB x = true) := by
          have h := HC1.out
          rw [prB] at h
          simp only [Bool.and_eq_true] at h
          exact (listB_bounds h.2.2).2.2
        clear HC1
        go_wp2_with fail
        clear p0 p1 p2
        go_loopw [22] (fun i wr => ∃ k : Nat, k ≤ p.rules.length ∧ i = .int .i64 k ∧ Hid (checkZ p = rulesErr p.decls (p.rules.drop k) k) ∧ Hid (Below w4.heap.size w4 wr)) (fun i _ => p.rules.length - (intOf i).toNat)
        case atStart => exact ⟨0, Nat.zero_le _, rfl, HE.out, Below.refl _ _⟩
        case round =>
          obtain ⟨k, hk, rfl, hrec, hbel⟩ := hrel
          by_cases hl : k < p.rules.length
          · have P5 := Lib.hid (RepPr.on (fun _ h => h) (fun k (hk : k < w.heap.size) => hbel.out.block k (Nat.lt_of_lt_of_le hk B4.out.size)) P4.out)
            obtain ⟨-, -, lb, lo, xa, xc, ya, yc, rfl, hSb, g0, g1, g2, g3, g4, g5, g⟩ := RepRus.at P5.out.2.2 k hl
            have HD := Lib.hid (List.drop_eq_getElem_cons hl)
            have HRB := Lib.hid (HRU.out _ (List.getElem_mem hl))
            have G := Lib.hid g
            clear g hSb
            generalize p.rules[k] = r at *
            have hba := below_alloc wr (.cells #[.string r.label, .string r.head, .slice xa r.args.length xc, .string r.agg, .int .i64 r.at', .slice ya r.body.length yc] 39)
            have hbx := boxRu_new wr (.string r.label) (.string r.head) (.slice xa r.args.length xc) (.string r.agg) (.int .i64 r.at') (.slice ya r.body.length yc)
            have hws : w.heap.size ≤ wr.heap.size := Nat.le_trans B4.out.size hbel.out.size
            have HR := Lib.hid (RepRu.on (S' := fun k => k < w.heap.size) (fun _ h => h) (fun j hj => hba.block j (Nat.lt_of_lt_of_le hj hws)) G.out)
            have HP6 := Lib.hid (RepPr.on (fun _ h => h) (fun j (hj : j < w.heap.size) => hba.block j (Nat.lt_of_lt_of_le hj hws)) P5.out)
            have HB := Lib.hid (Below.step hbel.out hba)
            have HWS := Lib.hid (Nat.le_trans hws hba.size)
            obtain ⟨q0, q1, q2, q3, q4, q5⟩ := hbx.cells
            obtain ⟨p0, p1, p2⟩ := (X4.out.on HB.out).cells
            clear hba hbx hbel hws P5
            go_wp2_with fail
            clear g0 g1 g2 g3 g4 g5
            generalize wr.alloc (.cells #[.string r.label, .string r.head, .slice xa r.args.length xc, .string r.agg, .int .i64 r.at', .slice ya r.body.length yc] 39) = wa at *
            refine (checkRule_any p r (fun k => k < w.heap.size) wa _ _ _ _ _ _ _ _ _ (fun k hk => Nat.lt_of_lt_of_le hk HWS.out) HP6.out HR.out HRB.out).mono ?_
            rintro e w6 ⟨rfl, hb6⟩
            have HB6 := Lib.hid (Below.step HB.out hb6)
            clear hb6 q0 q1 q2 q3 q4 q5 p0 p1 p2
            by_cases hz : ruleErr p.decls r = 0
            · have HF : Hid (checkZ p = rulesErr p.decls (p.rules.drop (k + 1)) (k + 1)) := by show _ = _; rw [hrec.out, HD.out, rulesErr, if_pos hz]
              rw [hz]
              clear hz
              go_wp2_with fail
              go_roundw
              case rel => exact ⟨k + 1, hl, by go_num, HF, HB6.out⟩
              case measure => simp [intOf]; omega
            · have HF : Hid (checkZ p = (ruleErr p.decls r, (k : Int))) := by show _ = _; rw [hrec.out, HD.out, rulesErr, if_neg hz]
              obtain ⟨g, hg⟩ : ∃ g, ruleErr p.decls r = g := ⟨_, rfl⟩
              rw [hg] at hz HF ⊢
              have hz1 : (g == 0) = false := by simp [hz]
              clear hz hg
              go_wp2_with fail
              go_ret2
              exact ⟨ret_ii HF.out, Below.step B4.out HB6.out⟩
          · have HF : Hid (checkZ p = (0, -1)) := by show _ = _; rw [hrec.out, List.drop_of_length_le (by omega), rulesErr]
            go_wp2_with fail
            go_ret2
            exact ⟨ret_ii HF.out, Below.step B4.out hbel.out⟩

end Go.Proofs.Ytkaiihoijcpldaa

/-
  scope.Vars: a term's variables, each once.
-/
namespace Go.Proofs.Ytkaiihoijcpldaa
open Go.RowKit Go.Shelf

attribute [local go_sem] Oper.semAt_some

/-- Each name once, as it first stands there. -/
def ddN (l : List Nm) : List Nm := l.foldl (fun a x => if inB (a.map (·.1)) x.1 = true then a else a ++ [x]) []
theorem ddN_hit {l : List Nm} {x : Nm} (h : inB ((ddN l).map (·.1)) x.1 = true) : ddN (l ++ [x]) = ddN l := by
  unfold ddN at h ⊢
  rw [List.foldl_append, List.foldl_cons, List.foldl_nil, if_pos h]
theorem ddN_new {l : List Nm} {x : Nm} (h : inB ((ddN l).map (·.1)) x.1 = false) : ddN (l ++ [x]) = ddN l ++ [x] := by
  unfold ddN at h ⊢
  rw [List.foldl_append, List.foldl_cons, List.foldl_nil, if_neg (by rw [h]; decide)]
theorem ddN_le (l : List Nm) : (ddN l).length ≤ l.length := by
  suffices H : ∀ (r : List Nm), r <+: l → (ddN r).length ≤ r.length from H l (List.prefix_refl l)
  intro r _
  induction hr : r.length generalizing r with
  | zero => rw [List.length_eq_zero_iff.1 hr]; simp [ddN]
  | succ n ih =>
    have hne : r ≠ [] := by intro h; rw [h] at hr; cases hr
    obtain ⟨s, x, rfl⟩ : ∃ s x, r = s ++ [x] := ⟨r.dropLast, r.getLast hne, (List.dropLast_concat_getLast hne).symm⟩
    have h1 := ih s (by exact List.IsPrefix.trans (List.prefix_append _ _) ‹_›) (by simpa using hr)
    cases hc : inB ((ddN s).map (·.1)) x.1 with
    | true => rw [ddN_hit hc]; omega
    | false => rw [ddN_new hc, List.length_append, List.length_singleton]; omega
theorem infoStr : (Try.prog.info? 9).map (fun i => (i.zero, i.size, i.bytes)) = some (some (.string ⟨#[]⟩), 1, 16) := by kernel_rfl
theorem SetAt.not_row {w : World} {b n : Nat} {l : List ByteArray} (h : SetAt w b n l) {base : Nat} {e : TypeId} {size k : Nat} {v : Value} {xs : List Value} (hr : w.ownsRow base e size v k xs) : v.ownBlock ≠ some b := by
  intro he
  rcases hr.2 with ⟨rfl, -⟩ | ⟨g, cap, cur, rfl, -, hg, -⟩
  · simp [Value.ownBlock] at he
  · obtain rfl : g = b := by simpa [Value.ownBlock] using he
    obtain ⟨es, clock, hb, -⟩ := h.1
    rw [hg] at hb
    cases hb
theorem boxed_not_map {w : World} {b n : Nat} {l : List ByteArray} (h : SetAt w b n l) {k : Nat} {t : TypeId} {v : Value} (hb : Go.Boxed w k t v) : some k ≠ some b := by
  intro he
  obtain rfl : k = b := Option.some.inj he
  obtain ⟨es, clock, hm, -⟩ := h.1
  rw [show w.heap[k]? = _ from hb] at hm
  cases hm

theorem own_none (v : Value) : v.ownBlock = none ∨ v.ownBlock ≠ (none : Option Nat) := by
  cases v.ownBlock <;> simp
theorem kp_grown {n₀ D b : Nat} {W W' : World} (hg : W.grownBy W' (some b)) (hn : n₀ ≤ W.heap.size) (hb : n₀ ≤ b) (hD : b < D) : KpD n₀ D W W' :=
  ⟨(Below.refl n₀ W).grown hg hn (fun k e => by cases e; exact hb), fun k o hk ho _ => (hg.block k (Array.getElem?_eq_some_iff.1 ho).1 (fun e => by cases e; omega)).trans ho⟩
theorem kp_append {n₀ D B : Nat} {t : TypeId} {W2 w1 : World} {v v' : Value} {k : Nat} {xs : List Value} {tmp : Obj} (hv : Go.Boxed W2 B t v) (hrow : W2.ownsRow n₀ 9 1 v k xs) (hgrow : (W2.alloc tmp).grownBy w1 v.ownBlock) (hB : B < D)
    (hb2 : Below n₀ W2 (w1.setCell ⟨B, 0, none⟩ v')) : KpD n₀ D W2 (w1.setCell ⟨B, 0, none⟩ v') := by
  refine ⟨hb2, fun j o hj ho hc => ?_⟩
  have hlt := (Array.getElem?_eq_some_iff.1 ho).1
  have hne : some j ≠ v.ownBlock := by
    intro e
    rcases hrow.2 with ⟨rfl, -⟩ | ⟨g, cap, cur, rfl, -, hg, -⟩
    · simp [Value.ownBlock] at e
    · obtain rfl : j = g := by simpa [Value.ownBlock] using e
      rw [hg] at ho
      cases ho
      simp [keptB] at hc
  exact (Below.heap_setCell w1 ⟨B, 0, none⟩ v' j (by show j ≠ B; omega)).trans ((hgrow.block j (by simp; omega) hne).trans ((Below.heap_alloc _ _ _ hlt).trans ho))

/-- What stands between two rounds. -/
def VI (w : World) (pre : List Nm) (W : World) : Prop :=
  (∃ v, Go.Boxed W (w.heap.size + 1) 50 v ∧ W.ownsRow (w.heap.size + 1) 9 1 v (ddN pre).length ((ddN pre).map fun x => Value.string x.1)) ∧
    SetAt W (w.heap.size + 2) (ddN pre).length ((ddN pre).map (·.1)) ∧ Go.Boxed W (w.heap.size + 3) 75 (.map (some (w.heap.size + 2))) ∧ Below w.heap.size w W
theorem VI.own (w : World) (B : Nat) (hB : w.heap.size + 4 ≤ B) : OwnFrom B (VI w) := by
  rintro pre W W' row ⟨⟨v, hv, hr⟩, hs, hm, hb⟩ hg hrow
  have hc : ∀ k t u, Go.Boxed W k t u → some k ≠ row := fun k t u hk e => by
    obtain ⟨-, o, ho, hoc⟩ := hrow k e.symm
    rw [show W.heap[k]? = _ from hk] at ho
    cases ho
    cases hoc
  have hr2 : W'.ownsRow (w.heap.size + 1) 9 1 v (ddN pre).length ((ddN pre).map fun x => Value.string x.1) := by
    refine hr.kept hg ?_
    rcases hr.2 with ⟨rfl, -⟩ | ⟨g, cap, cur, rfl, -, hgg, -⟩
    · exact .inl rfl
    · refine .inr fun e => ?_
      have e' : row = some g := by rw [← e]; rfl
      obtain ⟨-, o, ho, hoc⟩ := hrow g e'
      rw [hgg] at ho
      cases ho
      cases hoc
  refine ⟨⟨v, hv.kept hg (hc _ _ _ hv), hr2⟩, hs.grown hg (fun e => ?_), hm.kept hg (hc _ _ _ hm), hb.grown hg hb.size (fun k e => ?_)⟩
  · have := (hrow _ e.symm).1; omega
  · have := (hrow _ e).1; omega

set_option maxRecDepth 100000 in
set_option maxHeartbeats 4000000 in
theorem vars_in (t : Tm) (w : World) (fa : Option Addr) (fc : Nat) (ga : Option Addr) (gc : Nat) (hrep : TmAt (fun k => k < w.heap.size) w t fa fc ga gc) (hfew : (varsM t).length ≤ 100000) :
    CallsIn Fence.wide 3 Try.prog 14 #[.agg #[.int .i64 t.kind, .string t.name, .int .i64 t.val.kind, .int .i64 t.val.num, .string t.val.text, .slice fa t.val.list.length fc, .slice ga t.args.length gc]] w
      fun e W' => ∃ v, e = .returned v ∧ W'.ownsRow (w.heap.size + 1) 9 1 v (ddN (namesL [t])).length ((ddN (namesL [t])).map fun x => Value.string x.1) ∧ Below w.heap.size w W' := by
  have h1 : 1 ≤ 3 := by omega
  obtain ⟨i0, hi, hz0, hz1, hz2⟩ := info_parts infoStr
  have hmm := @run_makeMap Try.prog
  refine callsIn_of_wp_marks Try.func14 rfl trivial ?_ rfl
  simp only [Try.ntmps14, List.size_toArray, List.length_cons, List.length_nil, Nat.reduceAdd, Nat.reduceSub, Array.replicate_succ, Array.replicate_zero, List.push_toArray, List.append_toArray, List.nil_append, List.cons_append]
  gi_wp2_with ((try refine ⟨trivial, ?_⟩); gi_at_call 32; refine (variables_in Fence.wide _ trivial rfl _ _ _ _).mono ?_; rintro e w' ⟨rfl, rfl⟩)
  obtain ⟨T, hT⟩ : ∃ T, Obj.cells #[.int .i64 t.kind, .string t.name, .int .i64 t.val.kind, .int .i64 t.val.num, .string t.val.text, .slice fa t.val.list.length fc, .slice ga t.args.length gc] 48 = T := ⟨_, rfl⟩
  rw [hT]
  have s1 : (w.alloc T).heap.size = w.heap.size + 1 := World.size_alloc _ _
  have s2 : ((w.alloc T).alloc (.cells #[.slice none 0 0] 50)).heap.size = w.heap.size + 1 + 1 := by rw [World.size_alloc, s1]
  have s3 : (((w.alloc T).alloc (.cells #[.slice none 0 0] 50)).alloc (.map #[] 0)).heap.size = w.heap.size + 1 + 1 + 1 := by rw [World.size_alloc, s2]
  have s4 : ((((w.alloc T).alloc (.cells #[.slice none 0 0] 50)).alloc (.map #[] 0)).alloc (.cells #[.map (some (w.heap.size + 1 + 1))] 75)).heap.size = w.heap.size + 1 + 1 + 1 + 1 := by rw [World.size_alloc, s3]
  have s5 : (((((w.alloc T).alloc (.cells #[.slice none 0 0] 50)).alloc (.map #[] 0)).alloc (.cells #[.map (some (w.heap.size + 1 + 1))] 75)).alloc T).heap.size = w.heap.size + 1 + 1 + 1 + 1 + 1 := by rw [World.size_alloc, s4]
  have b1 := Go.Boxed.new (w.alloc T) 50 (.slice none 0 0)
  have m2 := setAt_new ((w.alloc T).alloc (.cells #[.slice none 0 0] 50))
  have b3 := Go.Boxed.new (((w.alloc T).alloc (.cells #[.slice none 0 0] 50)).alloc (.map #[] 0)) 75 (.map (some (w.heap.size + 1 + 1)))
  have x4 := boxM_new ((((w.alloc T).alloc (.cells #[.slice none 0 0] 50)).alloc (.map #[] 0)).alloc (.cells #[.map (some (w.heap.size + 1 + 1))] 75)) (.int .i64 t.kind) (.string t.name) (.int .i64 t.val.kind) (.int .i64 t.val.num) (.string t.val.text) (.slice fa t.val.list.length fc) (.slice ga t.args.length gc)
  rw [hT] at x4
  have c5 := cell_new1 (((((w.alloc T).alloc (.cells #[.slice none 0 0] 50)).alloc (.map #[] 0)).alloc (.cells #[.map (some (w.heap.size + 1 + 1))] 75)).alloc T) (.slice (some ⟨w.heap.size + 1 + 1 + 1 + 1, 0, none⟩) 1 1) 36
  rw [s1] at b1; rw [s2] at m2; rw [s3] at b3; rw [s4] at x4; rw [s5] at c5
  have hB0 : Below w.heap.size w ((((((w.alloc T).alloc (.cells #[.slice none 0 0] 50)).alloc (.map #[] 0)).alloc (.cells #[.map (some (w.heap.size + 1 + 1))] 75)).alloc T).alloc (.cells #[.slice (some ⟨w.heap.size + 1 + 1 + 1 + 1, 0, none⟩) 1 1] 36)) :=
    ((((((Below.refl _ w).alloc (Nat.le_refl _) _).alloc (by omega) _).alloc (by omega) _).alloc (by omega) _).alloc (by omega) _).alloc (by omega) _
  have s6 : ((((((w.alloc T).alloc (.cells #[.slice none 0 0] 50)).alloc (.map #[] 0)).alloc (.cells #[.map (some (w.heap.size + 1 + 1))] 75)).alloc T).alloc (.cells #[.slice (some ⟨w.heap.size + 1 + 1 + 1 + 1, 0, none⟩) 1 1] 36)).heap.size = w.heap.size + 6 := by rw [World.size_alloc, s5]
  replace b1 := ((((b1.alloc (.map #[] 0)).alloc (.cells #[.map (some (w.heap.size + 1 + 1))] 75)).alloc T).alloc (.cells #[.slice (some ⟨w.heap.size + 1 + 1 + 1 + 1, 0, none⟩) 1 1] 36))
  replace m2 := (((m2.on (below_alloc _ (.cells #[.map (some (w.heap.size + 1 + 1))] 75))).on (below_alloc _ T)).on (below_alloc _ (.cells #[.slice (some ⟨w.heap.size + 1 + 1 + 1 + 1, 0, none⟩) 1 1] 36)))
  replace b3 := ((b3.alloc T).alloc (.cells #[.slice (some ⟨w.heap.size + 1 + 1 + 1 + 1, 0, none⟩) 1 1] 36))
  replace x4 := x4.on (below_alloc _ (.cells #[.slice (some ⟨w.heap.size + 1 + 1 + 1 + 1, 0, none⟩) 1 1] 36))
  have c5c := c5.1
  clear c5 s1 s2 s3 s4 s5
  generalize ((((((w.alloc T).alloc (.cells #[.slice none 0 0] 50)).alloc (.map #[] 0)).alloc (.cells #[.map (some (w.heap.size + 1 + 1))] 75)).alloc T).alloc (.cells #[.slice (some ⟨w.heap.size + 1 + 1 + 1 + 1, 0, none⟩) 1 1] 36)) = W3 at *
  have hrepL : RepMs (SK (w.heap.size + 1) (w.heap.size + 4) W3) W3 [t] (.slice (some ⟨w.heap.size + 1 + 1 + 1 + 1, 0, none⟩) 1 1) := by
    refine ⟨some ⟨w.heap.size + 1 + 1 + 1 + 1, 0, none⟩, w.heap.size + 1 + 1 + 1 + 1, 0, 1, rfl, by simp, by simp, fun _ => rfl, fun _ => .inr ⟨by omega, _, x4, rfl⟩, fun i hi => ?_⟩
    obtain rfl : i = 0 := by simpa using hi
    refine ⟨fun j => (#[.int .i64 t.kind, .string t.name, .int .i64 t.val.kind, .int .i64 t.val.num, .string t.val.text, .slice fa t.val.list.length fc, .slice ga t.args.length gc] : Array Value).getD j undef, fun j hj => ?_, RepM.on (fun k (hk : k < w.heap.size) => .inl (by omega)) (fun k hk => hB0.block k hk) t hrep⟩
    obtain ⟨e0, e1, e2, e3, e4, e5, e6⟩ := x4.cells
    match j, hj with
    | 0, _ => exact e0
    | 1, _ => exact e1
    | 2, _ => exact e2
    | 3, _ => exact e3
    | 4, _ => exact e4
    | 5, _ => exact e5
    | 6, _ => exact e6
  have hvi : VI w [] W3 := ⟨⟨_, b1, World.ownsRow_nil _ _ _ _⟩, m2, b3, hB0⟩
  clear hrep x4 hmm b1 m2 b3
  have hnv : (namesL [t]).length ≤ 100000 := by rw [namesL_length, varsL, varsL, List.append_nil]; exact hfew
  refine wpIn_rangeFunc_ownG (F := Fence.wide) (n := 3) rfl h1 (gf := 49) (lb := #[.pointer (some ⟨w.heap.size + 1 + 1 + 1 + 1 + 1, 0, none⟩)]) rfl trivial (enters_of Try.func49 (by kernel_rfl) rfl)
    (vars_stops Fence.wide rfl 2 trivial trivial rfl (w.heap.size + 1 + 1 + 1 + 1 + 1) (w.heap.size + 1) (w.heap.size + 4) [t] _ W3 (by omega) (by omega) (by omega) c5c hrepL) KpD.trans (fun W l o o' hl hW ho _ => KpD.putObj W l o o' (by omega) hW ho) (Below.refl _ _) (fun _ => by rfl)
    (VI w) (fun _ _ _ => False) (VI.own w _ (by omega)) (fun _ _ _ _ _ hs _ _ => hs) hvi
    (fun x => { tmps := #[.agg #[.int .i64 t.kind, .string t.name, .int .i64 t.val.kind, .int .i64 t.val.num, .string t.val.text, .slice fa t.val.list.length fc, .slice ga t.args.length gc], .pointer (some ⟨w.heap.size, 0, none⟩), .slice none 0 0, .pointer (some ⟨w.heap.size + 1, 0, none⟩), .pointer (some ⟨w.heap.size + 1 + 1 + 1, 0, none⟩), .string x.1, .map (some (w.heap.size + 1 + 1)), .agg #[.int .i64 t.kind, .string t.name, .int .i64 t.val.kind, .int .i64 t.val.num, .string t.val.text, .slice fa t.val.list.length fc, .slice ga t.args.length gc], .slice (some ⟨w.heap.size + 1 + 1 + 1 + 1, 0, none⟩) 1 1, .func (.func 49) #[] #[.pointer (some ⟨w.heap.size + 1 + 1 + 1 + 1 + 1, 0, none⟩)], .string x.1, undef, undef, undef, undef, undef, undef, undef, undef, undef, undef, undef, undef], defers := [] }) ?assign ?body ?done ?stop
  case assign =>
    intro l x W K hK
    gi_wp2
    exact hK
  case body =>
    rintro l2 pre x W ⟨⟨v, hv, hrow⟩, hset, hmb, hB⟩ hpl
    have hple : (ddN pre).length ≤ 100000 := Nat.le_trans (ddN_le pre) (by omega)
    have HW3 := Lib.hid s6
    have hh := has_any (w.heap.size + 2) _ _ x.1 W x.2 hset
    have HV := Lib.hid hv; have HR := Lib.hid hrow; have HS := Lib.hid hset; have HM := Lib.hid hmb; have HB := Lib.hid hB
    have hmc := hmb.cell
    cases ht : inB ((ddN pre).map (·.1)) x.1 with
    | true =>
      have HD := Lib.hid (ddN_hit ht)
      rw [ht] at hh
      clear ht hv hrow hset hmb hB
      gi_wp2_with ((try refine ⟨trivial, ?_⟩); gi_at_call 33; refine (CallsIn.inRound l2 (callsIn_wide.2 hh)).mono ?_; clear hh; rintro e W' ⟨rfl, hb⟩)
      have hg := grown_of_below hb
      refine ⟨KeepsFrom.of_grownBy hg (fun j e => by cases e), (KpD.refl _ _ _).of_below hb (by have := HB.out.size; have := HM.out.lt; omega), ?_⟩
      rw [VI, HD.out]
      exact ⟨⟨v, HV.out.kept hg (by simp), HR.out.kept hg (own_none _)⟩, HS.out.on hb, HM.out.kept hg (by simp), HB.out.trans (hb.mono HB.out.size)⟩
    | false =>
      have HD := Lib.hid (ddN_new ht)
      rw [ht] at hh
      clear ht hv hrow hset hmb hB
      gi_wp2_with (first
        | ((try refine ⟨trivial, ?_⟩); gi_at_call 33; refine (CallsIn.inRound l2 (callsIn_wide.2 hh)).mono ?_; clear hh; rintro e W' ⟨rfl, hb⟩; have hmc' := (HM.out.kept (grown_of_below hb) (by simp)).cell; have hadd := add_any (w.heap.size + 2) _ _ x.1 W' (by unfold maxLen; omega) x.2 (HS.out.on hb))
        | ((try refine ⟨trivial, ?_⟩); gi_at_call 34; refine (CallsIn.inRound l2 (callsIn_wide.2 hadd)).mono ?_; clear hadd; rintro e W2 ⟨rfl, hs2, hg2⟩; have hv2 := (HV.out.kept (grown_of_below hb) (by simp)).kept hg2 (boxed_not_map (HS.out.on hb) (HV.out.kept (grown_of_below hb) (by simp))); have hc2 := hv2.cell; have hr2 := (HR.out.kept (grown_of_below hb) (own_none _)).kept hg2 (.inr ((HS.out.on hb).not_row (HR.out.kept (grown_of_below hb) (own_none _)))))
        | (gi_at_builtin; refine wpListIn_append_own _ rfl _ _ 50 rfl (w.heap.size + 1) 9 i0 (.string ⟨#[]⟩) 1 16 Try.underlying50 hi hz0 hz1 hz2 rfl (by decide) _ _ _ rfl (hr2.alloc _) ⟨W2.heap.size, 0, none⟩ 1 1 [.string x.1] rfl rfl (cell_one_new _ _ _) (by simp [Value.oneCell']) (by unfold maxLen; omega) (by omega) (by have h1 := hv2.lt; simp; omega) ?_; intro v' w1 hown' hgrow _; obtain ⟨g', cap', rfl⟩ := ownsRow_succ hown'; obtain ⟨hv1, hv3, hr3, hk3, hb3⟩ := hv2.appended (by decide) hr2 (Nat.le_of_lt hv2.lt) (Nat.le_refl _) hown' hgrow; have hc1 := hv1.cell; have hf1 := hv1.frozen)
        | fail)
      have hg := grown_of_below hb
      have hkp := kp_append hv2 hr2 hgrow (show w.heap.size + 1 < w.heap.size + 4 by omega) hb3
      refine ⟨((KeepsFrom.of_grownBy hg (fun j e => by cases e)).trans (KeepsFrom.of_grownBy hg2 (fun j e => by cases e; have := HW3.out; omega))).trans (hk3.from _),
        (((KpD.refl _ _ _).of_below hb (by have := HM.out.lt; omega)).trans (kp_grown hg2 (by have := HM.out.lt; have := hb.size; omega) (by omega) (by omega))).trans hkp, ?_⟩
      have hm2 := (HM.out.kept hg (by simp)).kept hg2 (boxed_not_map (HS.out.on hb) (HM.out.kept hg (by simp)))
      have hBE : Below w.heap.size w W2 := (HB.out.trans (hb.mono HB.out.size)).grown hg2 (Nat.le_trans HB.out.size hb.size) (fun j e => by cases e; omega)
      rw [VI, HD.out]
      refine ⟨⟨_, hv3, by simpa using hr3⟩, ?_, ((hm2.alloc _).kept hgrow (hm2.not_row (by decide) hr2)).kept (grownBy_setCell' w1 _ _) (by simp), hBE.trans (hb3.mono (by omega))⟩
      have hs3 := fun u => ((hs2.on (below_alloc W2 _)).grown hgrow (hs2.not_row hr2).symm).grown (grownBy_setCell' w1 (w.heap.size + 1) u) (by simp)
      simpa using hs3 _
  case done =>
    rintro D ys W hD rfl ⟨⟨v, hv, hrow⟩, hset, hmb, hB⟩ hK
    have hc := hv.cell
    gi_wp2
    refine ⟨by simp, .inl ⟨_, _, rfl, run_takeDeferred hK, ?_⟩⟩
    exact ⟨_, results_tmp rfl _ _ _, v, rfl, ownsRow_putObj hrow _ hK rfl, hB.trans (belowK_b (w := w) (Nat.le_refl _) W D _ _ (by omega) hK rfl rfl)⟩
  case stop =>
    rintro D c pre W _ _ h _
    exact h.elim

theorem vars_any (t : Tm) (S : Nat → Prop) (w : World) (c0 c1 c2 c3 c4 c5 c6 : Value) (hS : ∀ k, S k → k < w.heap.size) (hrep : RepM S w t c0 c1 c2 c3 c4 c5 c6) (hfew : (varsM t).length ≤ 100000) :
    Calls Try.prog 14 #[.agg #[c0, c1, c2, c3, c4, c5, c6]] w
      fun e W' => ∃ v, e = .returned v ∧ W'.ownsRow (w.heap.size + 1) 9 1 v (ddN (namesL [t])).length ((ddN (namesL [t])).map fun x => Value.string x.1) ∧ Below w.heap.size w W' := by
  obtain ⟨fa, fc, ga, gc, rfl, rfl, rfl, rfl, rfl, rfl, rfl⟩ := hrep.form
  exact callsIn_wide.1 (vars_in t w fa fc ga gc (RepM.on hS (fun _ _ => rfl) t hrep) hfew)

end Go.Proofs.Ytkaiihoijcpldaa

/-
  A variable whose cells are all slices (a program's) is no block of what terms, literals, rules, relations and facts lie in.
-/
namespace Go.Proofs.Ytkaiihoijcpldaa
open Go.RowKit

/-- All cells of block X are slices. -/
def AllSl (w : World) (X : Nat) : Prop := ∀ o v, w.cell? ⟨X, o, none⟩ = some v → ∃ a n c, v = .slice a n c
theorem allSl_pr {w : World} {X : Nat} {a0 a1 a2 : Option Addr} {n0 c0 n1 c1 n2 c2 : Nat} (h : BoxPr w X (.slice a0 n0 c0) (.slice a1 n1 c1) (.slice a2 n2 c2)) : AllSl w X := by
  obtain ⟨k0, k1, k2⟩ := h.cells
  intro o v hv
  match o with
  | 0 => rw [k0] at hv; cases hv; exact ⟨_, _, _, rfl⟩
  | 1 => rw [k1] at hv; cases hv; exact ⟨_, _, _, rfl⟩
  | 2 => rw [k2] at hv; cases hv; exact ⟨_, _, _, rfl⟩
  | o + 3 =>
    have hb : w.heap[X]? = some _ := h
    have hn : (#[.slice a0 n0 c0, .slice a1 n1 c1, .slice a2 n2 c2] : Array Value)[o + 3]? = none := Array.getElem?_eq_none (by simp)
    have e2 : w.cell? ⟨X, o + 3, none⟩ = none := by simp only [World.cell?, hb]; first | exact hn | (rw [hn]; rfl) | simp [hn]
    rw [e2] at hv; cases hv
section
variable {S : Nat → Prop} {w : World} {X : Nat}
theorem SlG.offS {α : Type} {n bytes : Nat} {R R' : α → (Nat → Value) → Prop} {l : List α} {v : Value} (hX : AllSl w X) (hn : 0 < n) (hR : ∀ x ∈ l, ∀ c, R x c → (∀ a k d, c 0 ≠ .slice a k d) ∧ R' x c) (h : SlG S w n bytes R l v) : SlG (fun k => S k ∧ k ≠ X) w n bytes R' l v := by
  obtain ⟨a, b, o, cap, e, h6, h7, h8, h9, h10⟩ := h
  refine ⟨a, b, o, cap, e, h6, h7, h8, fun hl => ⟨h9 hl, fun eb => ?_⟩, fun i hi => ?_⟩
  · obtain ⟨c, hc, hr⟩ := h10 0 hl
    subst eb
    obtain ⟨a1, k1, d1, e1⟩ := hX _ _ (hc 0 hn)
    exact (hR _ (List.getElem_mem hl) c hr).1 _ _ _ e1
  · obtain ⟨c, hc, hr⟩ := h10 i hi
    exact ⟨c, hc, (hR _ (List.getElem_mem hi) c hr).2⟩
theorem RepG.offS (hX : AllSl w X) : ∀ (x : V) {c0 c1 c2 c3 : Value}, RepG S w x c0 c1 c2 c3 → RepG (fun k => S k ∧ k ≠ X) w x c0 c1 c2 c3
  | .mk k n s l, c0, c1, c2, c3, h => by
    rw [repG_mk] at h ⊢
    obtain ⟨h0, h1, h2, h3, h4, h5, a, b, o, cap, e, h6, h7, h8, h9, h10⟩ := h
    refine ⟨h0, h1, h2, h3, h4, h5, a, b, o, cap, e, h6, h7, h8, fun hl => ⟨h9 hl, fun eb => ?_⟩, fun i hi => ?_⟩
    · obtain ⟨x0, x1, x2, x3, g0, g1, g2, g3, g⟩ := h10 0 hl
      obtain ⟨_, _, rfl, rfl, rfl, rfl⟩ := g.form
      subst eb
      obtain ⟨_, _, _, e1⟩ := hX _ _ g0
      cases e1
    · obtain ⟨x0, x1, x2, x3, g0, g1, g2, g3, g⟩ := h10 i hi
      exact ⟨x0, x1, x2, x3, g0, g1, g2, g3, RepG.offS hX l[i] g⟩
  termination_by x => SizeOf.sizeOf x
  decreasing_by
    have := List.sizeOf_lt_of_mem (List.getElem_mem hi)
    simp only [V.mk.sizeOf_spec]
    omega
theorem RepLG.offS (hX : AllSl w X) {l : List V} {v : Value} (h : RepLG S w l v) : RepLG (fun k => S k ∧ k ≠ X) w l v := by
  obtain ⟨a, b, o, cap, e, h6, h7, h8, h9, h10⟩ := h
  refine ⟨a, b, o, cap, e, h6, h7, h8, fun hl => ⟨h9 hl, fun eb => ?_⟩, fun i hi => ?_⟩
  · obtain ⟨x0, x1, x2, x3, g0, g1, g2, g3, g⟩ := h10 0 hl
    obtain ⟨_, _, rfl, rfl, rfl, rfl⟩ := g.form
    subst eb
    obtain ⟨_, _, _, e1⟩ := hX _ _ g0
    cases e1
  · obtain ⟨x0, x1, x2, x3, g0, g1, g2, g3, g⟩ := h10 i hi
    exact ⟨x0, x1, x2, x3, g0, g1, g2, g3, RepG.offS hX l[i] g⟩
theorem RepM.offS (hX : AllSl w X) : ∀ (x : Tm) {c0 c1 c2 c3 c4 c5 c6 : Value}, RepM S w x c0 c1 c2 c3 c4 c5 c6 → RepM (fun k => S k ∧ k ≠ X) w x c0 c1 c2 c3 c4 c5 c6
  | .mk k s x l, c0, c1, c2, c3, c4, c5, c6, h => by
    rw [repM_mk] at h ⊢
    obtain ⟨h0, h1, h2, h3, h4, a, b, o, cap, e, h6, h7, h8, h9, h10⟩ := h
    refine ⟨h0, h1, h2, h3, RepG.offS hX x h4, a, b, o, cap, e, h6, h7, h8, fun hl => ⟨h9 hl, fun eb => ?_⟩, fun i hi => ?_⟩
    · obtain ⟨c, hc, hr⟩ := h10 0 hl
      obtain ⟨_, _, _, _, e0, e1, -⟩ := hr.form
      subst eb
      obtain ⟨_, _, _, e2⟩ := hX _ _ (hc 0 (by omega))
      rw [e0] at e2; cases e2
    · obtain ⟨c, hc, hr⟩ := h10 i hi
      exact ⟨c, hc, RepM.offS hX l[i] hr⟩
  termination_by x => SizeOf.sizeOf x
  decreasing_by
    have := List.sizeOf_lt_of_mem (List.getElem_mem hi)
    simp only [Tm.mk.sizeOf_spec]
    omega
theorem RepMs.offS (hX : AllSl w X) {l : List Tm} {v : Value} (h : RepMs S w l v) : RepMs (fun k => S k ∧ k ≠ X) w l v :=
  SlG.offS hX (by omega) (fun x _ c hr => ⟨fun a k d e => (by
    obtain ⟨_, _, _, _, e0, -⟩ := hr.form
    rw [e0] at e; cases e), RepM.offS hX x hr⟩) h
theorem RepLi.offS (hX : AllSl w X) {x : Li} {c0 c1 c2 : Value} (h : RepLi S w x c0 c1 c2) : RepLi (fun k => S k ∧ k ≠ X) w x c0 c1 c2 := ⟨h.1, h.2.1, h.2.2.1, h.2.2.2.1, RepMs.offS hX h.2.2.2.2⟩
theorem RepLis.offS (hX : AllSl w X) {l : List Li} {v : Value} (h : RepLis S w l v) : RepLis (fun k => S k ∧ k ≠ X) w l v :=
  SlG.offS hX (by omega) (fun x _ c hr => ⟨fun a k d e => (by rw [hr.1] at e; cases e), RepLi.offS hX hr⟩) h
theorem RepRu.offS (hX : AllSl w X) {x : Ru} {c0 c1 c2 c3 c4 c5 : Value} (h : RepRu S w x c0 c1 c2 c3 c4 c5) : RepRu (fun k => S k ∧ k ≠ X) w x c0 c1 c2 c3 c4 c5 := by
  obtain ⟨h0, h1, h2, h3, h4, h5, h6, h7, h8, h9⟩ := h
  exact ⟨h0, h1, h2, h3, h4, h5, h6, h7, RepMs.offS hX h8, RepLis.offS hX h9⟩
theorem RepRus.offS (hX : AllSl w X) {l : List Ru} {v : Value} (h : RepRus S w l v) : RepRus (fun k => S k ∧ k ≠ X) w l v :=
  SlG.offS hX (by omega) (fun x _ c hr => ⟨fun a k d e => (by rw [hr.1] at e; cases e), RepRu.offS hX hr⟩) h
theorem RepDes.offS (hX : AllSl w X) {l : List De} {v : Value} (h : RepDes S w l v) : RepDes (fun k => S k ∧ k ≠ X) w l v :=
  SlG.offS hX (by omega) (fun x _ c hr => ⟨fun a k d e => (by rw [hr.1] at e; cases e), hr⟩) h
theorem RepFa.offS (hX : AllSl w X) {x : Fa} {c0 c1 : Value} (h : RepFa S w x c0 c1) : RepFa (fun k => S k ∧ k ≠ X) w x c0 c1 := ⟨h.1, h.2.1, RepLG.offS hX h.2.2⟩
theorem RepFas.offS (hX : AllSl w X) {l : List Fa} {v : Value} (h : RepFas S w l v) : RepFas (fun k => S k ∧ k ≠ X) w l v :=
  SlG.offS hX (by omega) (fun x _ c hr => ⟨fun a k d e => (by rw [hr.1] at e; cases e), RepFa.offS hX hr⟩) h
theorem RepPr.offS (hX : AllSl w X) {x : Pr} {c0 c1 c2 : Value} (h : RepPr S w x c0 c1 c2) : RepPr (fun k => S k ∧ k ≠ X) w x c0 c1 c2 := ⟨RepDes.offS hX h.1, RepFas.offS hX h.2.1, RepRus.offS hX h.2.2⟩
end
end Go.Proofs.Ytkaiihoijcpldaa
