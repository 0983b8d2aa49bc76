/-
  StrRules, EightInts
-/
import Derived.Test.YtjmnnjikmmglpaaGreatKF24
import Derived.Test.YtjmnnjikmmglpaaGreatKF27
import Derived.BigQuiet
namespace Go.Proofs.YtjmnnjikmmglpaaGreat
open Go.RowKit Go.Maps
def rulesAt (p : Pr) (f : Nat → Nat) (n : Int) : List Ru := p.rules.filter fun r => decide ((f (atN p.decls r.head) : Int) = n)
theorem rulesAt_take (p : Pr) (f : Nat → Nat) (n : Int) {k : Nat} (h : k < p.rules.length) : (p.rules.take (k + 1)).filter (fun r => decide ((f (atN p.decls r.head) : Int) = n)) = (p.rules.take k).filter (fun r => decide ((f (atN p.decls r.head) : Int) = n)) ++ if (f (atN p.decls p.rules[k].head) : Int) = n then [p.rules[k]] else [] := by
 rw [List.take_succ_eq_append_getElem h, List.filter_append]
 congr 1
 by_cases hc : (f (atN p.decls p.rules[k].head) : Int) = n
 ·rw [if_pos hc, List.filter_cons_of_pos (by simpa using hc)]; rfl
 ·rw [if_neg hc, List.filter_cons_of_neg (by simpa using hc)]; rfl
def RulesPost (p : Pr) (n : Int) (w : World) (e : Ending) (w' : World) : Prop :=
 Below w.heap.size w w' ∧ ((((checkZ p).1 ≠ 0 ∨ ¬ ∃ g, Sol (prSteps p) g) ∧ e = .returned (.slice none 0 0)) ∨
  ((checkZ p).1 = 0 ∧ ∃ f v, LeastN p.decls.length (prSteps p) f ∧ e = .returned v ∧ RepRus (fun b => w.heap.size ≤ b ∧ b < w'.heap.size) w' (rulesAt p f n) v))
set_option maxRecDepth 100000 in
set_option maxHeartbeats 4000000 in
theorem strataRules_any (p : Pr) (n : Int) (S : Nat → Prop) (w : World) (c0 c1 c2 : Value) (hS : ∀ k, S k → k < w.heap.size) (hp : RepPr S w p c0 c1 c2) :
  Calls Tryz.prog 29 #[.agg #[c0, c1, c2], .int .i64 n] w (RulesPost p n w) := by
 have HP := Lib.hid hp; have HS := Lib.hid hS
 obtain ⟨f0, f1, rfl⟩ := SlG.form hp.1;obtain ⟨f2, f3, rfl⟩ := SlG.form hp.2.1;obtain ⟨f4, f5, rfl⟩ := SlG.form hp.2.2;clear hp hS;go_enter Tryz.func29, Tryz.ntmps29
 go_upto_region 1 with fail
 have x0 := boxPr_new w (.slice f0 p.decls.length f1) (.slice f2 p.facts.length f3) (.slice f4 p.rules.length f5);have d0 := below_alloc w (.cells #[.slice f0 p.decls.length f1, .slice f2 p.facts.length f3, .slice f4 p.rules.length f5] 28);generalize w.alloc (.cells #[.slice f0 p.decls.length f1, .slice f2 p.facts.length f3, .slice f4 p.rules.length f5] 28) = w1 at *;have X := Lib.hid x0; have B := Lib.hid d0
 have P := Lib.hid (RepPr.on (S' := fun k => k < w.heap.size) HS.out (fun k hk => d0.block k (HS.out k hk)) HP.out);clear x0 d0 HP HS;obtain ⟨p0, p1, p2⟩ := X.out.cells;go_wp2_with fail
 refine (strata_any p (fun k => k < w.heap.size) w1 _ _ _ (fun k hk => Nat.lt_of_lt_of_le hk B.out.size) P.out).mono ?_;rintro e w2 ⟨hb, hcase⟩;replace X := Lib.hid (X.out.on hb);have P2 := Lib.hid (RepPr.on (fun _ h => h) (fun k (hk : k < w.heap.size) => hb.block k (Nat.lt_of_lt_of_le hk B.out.size)) P.out);replace B := Lib.hid (Below.step B.out hb);clear hb p0 p1 p2 P;rcases hcase with ⟨hc, rfl⟩ | ⟨hc, hno, rfl⟩ | ⟨hc, v, rfl, hnv⟩
 ·have hc0 : ((checkZ p).1 == 0) = false := by simpa using hc
  have HC := Lib.hid hc;clear hc;go_wp2_with fail
  go_ret
  exact ⟨B.out, .inl ⟨.inl HC.out, rfl⟩⟩
 ·have HC := Lib.hid hno
  clear hc hno;go_wp2_with fail
  go_ret
  exact ⟨B.out, .inl ⟨.inr HC.out, rfl⟩⟩
 ·obtain ⟨nb, f, rfl, hnb, hnum, hleast⟩ := hnv
  obtain ⟨h1, -, -, h4⟩ := check_zero hc;have HRU := Lib.hid (pr_rules h1); have HER := Lib.hid h4
  have HDN : Hid (p.decls.length ≤ 64 ∧ p.rules.length ≤ 64) := by
   rw [prB] at h1;simp only [Bool.and_eq_true] at h1
   have a := (listB_bounds h1.1).2.1; have b := (listB_bounds h1.2.2).2.1
   show _ ∧ _; omega
  have HC := Lib.hid hc; have HL := Lib.hid hleast; have HNM := Lib.hid hnum
  clear hc hnb hnum hleast h1 h4;obtain ⟨p0, p1, p2⟩ := X.out.cells;go_wp2_with fail
  refine (placesOf_any p.decls (fun k => k < w.heap.size) w2 _ (fun k hk => Nat.lt_of_lt_of_le hk B.out.size) P2.out.1 (by have := HDN.out; omega)).mono ?_;rintro e w3 ⟨mb, rfl, hmb, hmap, hb⟩;replace X := Lib.hid (X.out.on hb);have P3 : Hid (RepRus (fun k => k < w.heap.size) w3 p.rules (.slice f4 p.rules.length f5)) := Lib.hid (RepRus.on (fun _ h => h) (fun k (hk : k < w.heap.size) => hb.block k (Nat.lt_of_lt_of_le hk B.out.size)) P2.out.2.2);replace HNM := Lib.hid (HNM.out.on hb);replace B := Lib.hid (Below.step B.out hb);have HM := Lib.hid hmap;clear hb hmb hmap p0 p1 p2 P2;obtain ⟨p0, p1, p2⟩ := X.out.cells;go_wp2_with fail
  clear p0 p1 p2 X;go_loopw [8, 24] (fun ov iv wr => ∃ k : Nat, k ≤ p.rules.length ∧ iv = .int .i64 (k : Int) ∧ Hid (MineK kdRu wr w3.heap.size ((p.rules.take k).filter fun r => decide ((f (atN p.decls r.head) : Int) = n)) ov) ∧ Hid (Below w3.heap.size w3 wr)) (fun _ iv _ => p.rules.length - (intOf iv).toNat)
  case atStart => exact ⟨0, Nat.zero_le _, rfl, Lib.hid (MineK.nil _ _), Lib.hid (Below.refl _ _)⟩
  case round =>
   obtain ⟨k, hk, rfl, hown, hbel⟩ := hrel
   by_cases hl : k < p.rules.length
   ·have P5 : Hid (RepRus (fun k => k < w.heap.size) wr p.rules (.slice f4 p.rules.length f5)) := Lib.hid (RepRus.on (fun _ h => h) (fun k (hk : k < w.heap.size) => hbel.out.block k (Nat.lt_of_lt_of_le hk B.out.size)) P3.out)
    obtain ⟨-, -, lb, lo, xa, xc, ya, yc, rfl, hSb, g0, g1, g2, g3, g4, g5, g⟩ := RepRus.at P5.out k hl;have HTK := Lib.hid (rulesAt_take p f n hl)
    have HTL : Hid (((p.rules.take k).filter fun r => decide ((f (atN p.decls r.head) : Int) = n)).length ≤ 1000) := by
     have a := List.length_filter_le (fun r : Ru => decide ((f (atN p.decls r.head) : Int) = n)) (p.rules.take k);rw [List.length_take] at a;have := HDN.out
     show _ ≤ _; omega
    have HRB := Lib.hid (HRU.out _ (List.getElem_mem hl)); have HRE := Lib.hid (HER.out _ (List.getElem_mem hl))
    have G := Lib.hid g;clear g hSb P5;generalize p.rules[k] = r at *;have hba := below_alloc wr (.cells #[.string r.label, .string r.head, .slice xa r.args.length xc, .string r.agg, .int .i64 r.at', .slice ya r.body.length yc] 47);have hbx := boxRu_new wr (.string r.label) (.string r.head) (.slice xa r.args.length xc) (.string r.agg) (.int .i64 r.at') (.slice ya r.body.length yc);have HSZ : Hid (r.head.size ≤ maxLen) := G.out.2.2.2.2.2.1;have HG : Hid (RepRu (fun k => k < w.heap.size) (wr.alloc (.cells #[.string r.label, .string r.head, .slice xa r.args.length xc, .string r.agg, .int .i64 r.at', .slice ya r.body.length yc] 47)) r (.string r.label) (.string r.head) (.slice xa r.args.length xc) (.string r.agg) (.int .i64 r.at') (.slice ya r.body.length yc)) := RepRu.on (fun _ h => h) (fun j (hj : j < w.heap.size) => hba.block j (Nat.lt_of_lt_of_le hj (Nat.le_trans B.out.size hbel.out.size))) G.out;have HO := Lib.hid (hown.out.stands hba); have HB := Lib.hid (Below.step hbel.out hba)
    clear hown hbel G;go_upto_region 9 with fail
    clear g0 g1 g2 g3 g4 g5;obtain ⟨bx, hbk⟩ : ∃ bx, wr.heap.size = bx := ⟨_, rfl⟩;rw [hbk] at hbx ⊢;clear hbk hba;generalize wr.alloc (.cells #[.string r.label, .string r.head, .slice xa r.args.length xc, .string r.agg, .int .i64 r.at', .slice ya r.body.length yc] 47) = wa at *;have XR := Lib.hid hbx;clear hbx;have HM5 : Hid (AtMap wa mb p.decls.length (atO p.decls 0)) := HM.out.grown ⟨HB.out.os, HB.out.tape, HB.out.output, HB.out.size, fun k hk _ => HB.out.block k hk⟩ (row := none) (by simp);have HN5 : Hid (NumAt wa nb p.decls.length f) := HNM.out.on HB.out;have hlt := atN_lt (ru_at HRB.out HRE.out);have hr := at_run HM5.out HSZ.out (atO_some (ru_at HRB.out HRE.out));generalize atN p.decls r.head = A at *;have c1 := HN5.out.cell hlt;have i1 : (0 : Int) ≤ (A : Int) := Int.natCast_nonneg _;have i2 : (A : Int) < (p.decls.length : Int) := by omega
    obtain ⟨q0, q1, q2, q3, q4, q5⟩ := XR.out.cells;have HWS : Hid (w3.heap.size ≤ wa.heap.size) := HB.out.size
    cases hcmp : ((f A : Int) == n) with
    | false =>
     have hne : ¬ (f A : Int) = n := by simpa using hcmp
     have HK : Hid (MineK kdRu wa w3.heap.size ((p.rules.take (k + 1)).filter fun r => decide ((f (atN p.decls r.head) : Int) = n)) u8) := by
      show MineK _ _ _ _ _
      rw [HTK.out, if_neg hne, List.append_nil]; exact HO.out
     clear hne HTK;have hdn := HDN.out;go_wp2_with fail
     go_roundw
     case rel => exact ⟨k + 1, hl, by go_num, HK, HB⟩
     case measure => simp [intOf]; omega
    | true =>
     have heq : (f A : Int) = n := by simpa using hcmp
     have HE : Hid ((p.rules.take (k + 1)).filter (fun r => decide ((f (atN p.decls r.head) : Int) = n)) = (p.rules.take k).filter (fun r => decide ((f (atN p.decls r.head) : Int) = n)) ++ [r]) := by show _ = _; rw [HTK.out, if_pos heq]
     clear heq HTK;go_wp2_with fail
     have hcc := copyRu_any r (fun b => b < w.heap.size) wa (at6v (.string r.label) (.string r.head) (.slice xa r.args.length xc) (.string r.agg) (.int .i64 r.at') (.slice ya r.body.length yc)) (fun b hb => Nat.lt_of_lt_of_le hb (Nat.le_trans B.out.size HWS.out)) HG.out;refine (hcc : Calls Tryz.prog 56 #[.agg #[.string r.label, .string r.head, .slice xa r.args.length xc, .string r.agg, .int .i64 r.at', .slice ya r.body.length yc]] wa _).mono ?_;clear hcc;rintro e w6 ⟨vs, rfl, hn, hR6, hb6⟩
     obtain ⟨v0, v1, v2, v3, v4, v5, rfl⟩ : ∃ v0 v1 v2 v3 v4 v5, vs = [v0, v1, v2, v3, v4, v5] := by
      match vs, (show vs.length = 6 from hn) with
      | [v0, v1, v2, v3, v4, v5], _ => exact ⟨v0, v1, v2, v3, v4, v5, rfl⟩
     have hR7 : RepRu _ _ r v0 v1 v2 v3 v4 v5 := hR6;obtain ⟨na, nc, ma, mc, rfl, rfl, rfl, rfl, rfl, rfl⟩ := hR7.form;have hbn := below_alloc w6 (.cells #[.string r.label, .string r.head, .slice na r.args.length nc, .string r.agg, .int .i64 r.at', .slice ma r.body.length mc] 47);have hown7 := HO.out.stands (Below.step hb6 hbn);have hlie : ∀ b, u8.ownBlock = some b → b < wa.heap.size := fun b hb => (OwnK.lies HO.out b hb).2
     obtain ⟨va, vcap, w8, hrun, hm8, hgr⟩ := own_append (K := kdRu) (y := r) (c := at6v (.string r.label) (.string r.head) (.slice na r.args.length nc) (.string r.agg) (.int .i64 r.at') (.slice ma r.body.length mc)) hown7 (Nat.le_trans HWS.out (Nat.le_trans hb6.size hbn.size)) HTL.out (alloc_new' w6 (.cells #[.string r.label, .string r.head, .slice na r.args.length nc, .string r.agg, .int .i64 r.at', .slice ma r.body.length mc] 47)) rfl (fun j hj => match j, hj with | 0, _ => rfl | 1, _ => rfl | 2, _ => rfl | 3, _ => rfl | 4, _ => rfl | 5, _ => rfl)
      (RepRu.on (fun b hb => ⟨Nat.le_trans HWS.out hb.1, Nat.lt_of_lt_of_le hb.2 hbn.size, fun e => by have := hlie b e; have := hb.1; omega⟩) (fun b hb => hbn.block b hb.2) hR7) 26
     have HRUN : Hid ((Builtin.append_ #[26, 26] 26 #[u8, .slice (some ⟨w6.heap.size, 0, none⟩) 1 1]).run Tryz.prog (w6.alloc (.cells #[.string r.label, .string r.head, .slice na r.args.length nc, .string r.agg, .int .i64 r.at', .slice ma r.body.length mc] 47)) = .ok (.slice va (((p.rules.take k).filter fun r => decide ((f (atN p.decls r.head) : Int) = n)).length + 1) vcap) w8) := hrun;have HK : Hid (MineK kdRu w8 w3.heap.size ((p.rules.take (k + 1)).filter fun r => decide ((f (atN p.decls r.head) : Int) = n)) (.slice va (((p.rules.take k).filter fun r => decide ((f (atN p.decls r.head) : Int) = n)).length + 1) vcap)) := by show MineK _ _ _ _ _; rw [HE.out]; exact hm8
     have HB8 : Hid (Below w3.heap.size w3 w8) := by
      have h6 := Below.step (Below.step HB.out hb6) hbn;exact ⟨hgr.os.trans h6.os, hgr.tape.trans h6.tape, hgr.output.trans h6.output, Nat.le_trans h6.size hgr.size, fun b hb => (hgr.block b (Nat.lt_of_lt_of_le hb h6.size) (fun e => by have := (OwnK.lies HO.out b e.symm).1; omega)).trans (h6.block b hb)⟩
     generalize ((p.rules.take k).filter fun r => decide ((f (atN p.decls r.head) : Int) = n)).length = ln at *;have hdn := HDN.out;clear hrun hm8 hgr hown7 hbn hR6 hR7 hb6 hn hlie q0 q1 q2 q3 q4 q5 c1 hr;go_wp2_with (at_builtin; refine wpList_append_by rfl _ _ _ rfl rfl rfl HRUN.out ?_)
     go_roundw
     case rel => exact ⟨k + 1, hl, by go_num, HK, HB8⟩
     case measure => simp [intOf]; omega
   ·have hkl : k = p.rules.length := by omega
    subst hkl
    have HK : Hid (RepRus (fun b => w.heap.size ≤ b ∧ b < wr.heap.size) wr (rulesAt p f n) u8) := by
     have h := hown.out;rw [List.take_length] at h
     exact MineK.slg h (fun b h1 h2 => ⟨Nat.le_trans B.out.size h1, h2⟩) (by
      have a := List.length_filter_le (fun r : Ru => decide ((f (atN p.decls r.head) : Int) = n)) p.rules
      have := HDN.out; omega)
    go_wp2_with fail
    go_ret
    exact ⟨below2 B.out (hbel.out.mono B.out.size), .inr ⟨HC.out, f, _, HL.out, rfl, HK.out⟩⟩
end Go.Proofs.YtjmnnjikmmglpaaGreat
namespace Go.Proofs.YtjmnnjikmmglpaaGreat
open Go.RowKit
def RepIs (S : Nat → Prop) (w : World) (l : List Int) (v : Value) : Prop := SlG S w 1 8 (fun x c => c 0 = .int .i64 x) l v
theorem RepIs.on {S S' : Nat → Prop} {w w' : World} {l : List Int} {v : Value} (hS : ∀ k, S k → S' k) (hw : ∀ k, S k → w'.heap[k]? = w.heap[k]?) (h : RepIs S w l v) : RepIs S' w' l v := SlG.on hS hw (fun _ _ _ h => h) h
theorem RepIs.nil (S : Nat → Prop) (w : World) : RepIs S w [] (.slice none 0 0) := ⟨none, 0, 0, 0, rfl, Nat.le_refl _, by simp, fun h => by omega, fun h => by simp at h, fun i hi => by simp at hi⟩
def numL (f : Nat → Nat) (n : Nat) : List Int := (List.range n).map fun i => (f i : Int)
theorem numL_len (f : Nat → Nat) (n : Nat) : (numL f n).length = n := by simp [numL]
theorem numL_at (f : Nat → Nat) (n : Nat) {i : Nat} (h : i < (numL f n).length) : (numL f n)[i] = (f i : Int) := by simp [numL]
theorem numL_congr {f g : Nat → Nat} {n : Nat} (h : ∀ i < n, f i = g i) : numL f n = numL g n := by
 unfold numL;exact List.map_congr_left fun i hi => by rw [h i (List.mem_range.1 hi)]
theorem NumAt.rep {w : World} {b n : Nat} {f : Nat → Nat} (h : NumAt w b n f) (hn : n ≤ 100000) : RepIs (fun k => k = b) w (numL f n) (.slice (some ⟨b, 0, none⟩) n n) := by
 refine ⟨_, b, 0, n, by rw [numL_len], by rw [numL_len]; exact Nat.le_refl _, by rw [numL_len]; omega, fun _ => rfl, fun _ => rfl, fun i hi => ?_⟩;rw [numL_len] at hi;refine ⟨fun _ => .int .i64 (f i : Int), fun j hj => ?_, by rw [numL_at]⟩;obtain rfl : j = 0 := by omega
 have := h.cell hi
 simpa using this
theorem sameInt {a b : Bool} (h : a = b) : Ending.returned (.bool a) = .returned (.bool b) := by rw [h]
set_option maxRecDepth 100000 in
set_option maxHeartbeats 2000000 in
theorem ints_any (l m : List Int) (S : Nat → Prop) (w : World) (a b : Value) (hS : ∀ k, S k → k < w.heap.size) (hl : RepIs S w l a) (hm : RepIs S w m b) :
  Calls Tryz.prog 28 #[a, b] w fun e w' => e = .returned (.bool (l == m)) ∧ Below w.heap.size w w' := by
 have hlb := SlG.bytes hl; have hmb := SlG.bytes hm
 obtain ⟨fa, fc, rfl⟩ := SlG.form hl;obtain ⟨ga, gc, rfl⟩ := SlG.form hm
 by_cases hne : l.length = m.length
 ·have HL := Lib.hid hl; have HM := Lib.hid hm; have HLM := Lib.hid hne
  clear hl hm;have h0 : ((l.length : Int) != (m.length : Int)) = false := by rw [hne]; simp
  go_enter Tryz.func28, Tryz.ntmps28
  go_wp2_with fail
  clear h0 hne;go_loopw [5] (fun iv wr => ∃ k : Nat, k ≤ l.length ∧ iv = .int .i64 (k : Int) ∧ Hid (l.take k = m.take k) ∧ Below w.heap.size w wr) (fun iv _ => l.length - (intOf iv).toNat)
  case atStart => exact ⟨0, Nat.zero_le _, rfl, Lib.hid (by simp), Below.refl _ _⟩
  case round =>
   obtain ⟨k, hk, rfl, htk, hbel⟩ := hrel
   by_cases hkl : k < l.length
   ·have hkm : k < m.length := by have := HLM.out; omega
    obtain ⟨-, -, lb, lo, rfl, -, c, hc, hcx⟩ := SlG.at (RepIs.on (fun _ h => h) (fun j hj => hbel.block j (hS j hj)) HL.out) k hkl;obtain ⟨-, -, mb, mo, rfl, -, d, hd, hdx⟩ := SlG.at (RepIs.on (fun _ h => h) (fun j hj => hbel.block j (hS j hj)) HM.out) k hkm;have q0 : wr.cell? ⟨lb, lo + k, none⟩ = some (.int .i64 l[k]) := by have h := hc 0 (by omega); rw [hcx] at h; simpa using h
    have q1 : wr.cell? ⟨mb, mo + k, none⟩ = some (.int .i64 m[k]) := by have h := hd 0 (by omega); rw [hdx] at h; simpa using h
    have HTL : Hid (l.take (k + 1) = l.take k ++ [l[k]]) := List.take_succ_eq_append_getElem hkl;have HTM : Hid (m.take (k + 1) = m.take k ++ [m[k]]) := List.take_succ_eq_append_getElem hkm;have HEX : Hid (l[k] ≠ m[k] → l ≠ m) := fun h e => by subst e; exact h rfl
    have i1 : (0 : Int) ≤ (k : Int) := Int.natCast_nonneg _;have i2 : (k : Int) < (l.length : Int) := by omega
    have i3 : (k : Int) < (m.length : Int) := by omega
    clear hc hcx hd hdx;generalize l[k] = x at *;generalize m[k] = y at *;have HBEL := Lib.hid hbel;clear hbel
    cases hxy : (x != y) with
    | true =>
     have hne : x ≠ y := by simpa using hxy
     have HF : Hid ((l == m) = false) := by show _ = _; rw [beq_eq_false_iff_ne]; exact HEX.out hne
     clear hne;go_wp2_with fail
     go_quiet (fail)
     go_wp2_with fail
     go_ret
     exact ⟨sameInt HF.out.symm, below_drewN HBEL.out _⟩
    | false =>
     have heq : x = y := by simpa using hxy
     have HK : Hid (l.take (k + 1) = m.take (k + 1)) := by show _ = _; rw [HTL.out, HTM.out, htk.out, heq]
     clear heq;go_wp2_with fail
     go_quiet (fail)
     go_wp2_with fail
     go_roundw
     case rel => exact ⟨k + 1, hkl, by go_num, HK, below_drewN HBEL.out _⟩
     case measure => simp [intOf]; omega
   ·have hkl2 : k = l.length := by omega
    have HF : Hid ((l == m) = true) := by
     have h := htk.out;rw [hkl2, List.take_length, HLM.out, List.take_length] at h
     show _ = _
     rw [h]; simp
    subst hkl2;go_wp2_with fail
    go_ret
    exact ⟨sameInt HF.out.symm, hbel⟩
 ·have h0 : ((l.length : Int) != (m.length : Int)) = true := by simp; exact fun e => hne (by omega)
  have HF : Hid ((l == m) = false) := by show _ = _; rw [beq_eq_false_iff_ne]; intro e; exact hne (by rw [e])
  clear hl hm hne;go_enter Tryz.func28, Tryz.ntmps28
  go_wp2_with fail
  go_ret
  exact ⟨sameInt HF.out.symm, Below.refl _ _⟩
end Go.Proofs.YtjmnnjikmmglpaaGreat
