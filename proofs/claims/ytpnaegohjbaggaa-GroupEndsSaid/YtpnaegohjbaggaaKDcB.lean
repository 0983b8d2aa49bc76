/-
  GrLawE, LawGEnds, CardGEnds
-/
import Derived.Test.YtpnaegohjbaggaaKD24
namespace Go.Proofs.Ytpnaegohjbaggaa
open Go.RowKit
def argR (n : Nat) (x : Ro) : V := x.args.getD n (.mk 0 0 ⟨#[]⟩ [])
theorem argR_at {n : Nat} {x : Ro} (h : n < x.args.length) : argR n x = x.args[n] := by unfold argR; rw [List.getD_eq_getElem?_getD, List.getElem?_eq_getElem h]; rfl
open Classical in
noncomputable def thereB (n : Nat) (x : Ro) (l : List Ro) : Bool := decide (∃ y ∈ l, AlikeP (n : Int) x y ∧ cmpV (argR n y) (argR n x) = 0)
theorem thereB_nil (n : Nat) (x : Ro) : thereB n x [] = false := by unfold thereB; simp
theorem thereB_yes {n : Nat} {x : Ro} {l : List Ro} (h : ∃ y ∈ l, AlikeP (n : Int) x y ∧ cmpV (argR n y) (argR n x) = 0) : thereB n x l = true := by unfold thereB; simp only [decide_eq_true_eq]; exact h
theorem thereB_hit {n : Nat} {x y : Ro} {l : List Ro} (h1 : AlikeP (n : Int) x y) (h2 : cmpV (argR n y) (argR n x) = 0) : thereB n x (l ++ [y]) = true := thereB_yes ⟨y, by simp, h1, h2⟩
theorem thereB_miss {n : Nat} {x y : Ro} {l : List Ro} (h : ¬ (AlikeP (n : Int) x y ∧ cmpV (argR n y) (argR n x) = 0)) : thereB n x (l ++ [y]) = thereB n x l := by
 unfold thereB
 congr 1
 refine propext ⟨fun ⟨z, hz, a, c⟩ => ?_, fun ⟨z, hz, a, c⟩ => ⟨z, List.mem_append_left _ hz, a, c⟩⟩;rcases List.mem_append.1 hz with hz | hz
 ·exact ⟨z, hz, a, c⟩
 ·rw [List.mem_singleton.1 hz] at a c; exact absurd ⟨a, c⟩ h
def EndsI (n : Nat) (s : Int) (L G : List Ro) : Prop := ∀ x ∈ G, n < x.args.length ∧ thereB n x L = true ∧ ∀ y ∈ L, AlikeP (n : Int) x y → cmpV (argR n y) (argR n x) * s ≤ 0
theorem ends_min {n : Nat} {L G : List Ro} (hl : ∀ x ∈ L, rightRo x) (h : GroupIs sMin n L G) : EndsI n (-1) L G := fun x hx => by
 obtain ⟨hn, ⟨y, hy, ha, hyn, hc⟩, hall⟩ := group_min sMin_l hl h x hx;refine ⟨hn, thereB_yes ⟨y, hy, ha, by rw [argR_at hyn, argR_at hn]; exact hc⟩, fun z hz za => ?_⟩;have hzn : n < z.args.length := by rw [← za.2.1]; exact hn
 have := hall z hz za hzn;rw [argR_at hzn, argR_at hn]; omega
theorem ends_max {n : Nat} {L G : List Ro} (hl : ∀ x ∈ L, rightRo x) (h : GroupIs sMax n L G) : EndsI n 1 L G := fun x hx => by
 obtain ⟨hn, ⟨y, hy, ha, hyn, hc⟩, hall⟩ := group_max sMax_l hl h x hx;refine ⟨hn, thereB_yes ⟨y, hy, ha, by rw [argR_at hyn, argR_at hn]; exact hc⟩, fun z hz za => ?_⟩;have hzn : n < z.args.length := by rw [← za.2.1]; exact hn
 have := hall z hz za hzn;rw [argR_at hzn, argR_at hn]; omega
theorem arg_of {S : Nat → Prop} {w : World} {x : Ro} {a : Option Addr} {c : Nat} (h : RepRo S w x (.string x.name) (.slice a x.args.length c) (.int .i64 x.stamp)) {n : Nat} (hn : n < x.args.length) :
  ∃ ub uo va vc, a = some ⟨ub, uo, none⟩ ∧ w.cell? ⟨ub, uo + n * 4, none⟩ = some (.int .i64 (argR n x).kind) ∧ w.cell? ⟨ub, uo + n * 4 + 1, none⟩ = some (.int .i64 (argR n x).num) ∧ w.cell? ⟨ub, uo + n * 4 + 2, none⟩ = some (.string (argR n x).text) ∧ w.cell? ⟨ub, uo + n * 4 + 3, none⟩ = some (.slice va (argR n x).list.length vc) ∧
   RepG S w (argR n x) (.int .i64 (argR n x).kind) (.int .i64 (argR n x).num) (.string (argR n x).text) (.slice va (argR n x).list.length vc) := by
 obtain ⟨ub, uo, uc, va, vc, e, -, u0, u1, u2, u3, hu⟩ := arg_at (x := (x, .slice a x.args.length c)) h hn
 injection e with e1 e2 e3
 subst e1;rw [argR_at hn];exact ⟨ub, uo, va, vc, rfl, u0, u1, u2, u3, hu⟩
end Go.Proofs.Ytpnaegohjbaggaa
namespace Go.Proofs.Ytpnaegohjbaggaa.groupEnds
open Go.RowKit
theorem cmp_11 (x y : V) : cmpV x y = -1 ∨ cmpV x y = 0 ∨ cmpV x y = 1 := (ord_value x y x).rng
set_option maxRecDepth 100000 in
set_option maxHeartbeats 8000000 in
theorem walk (facts : List Rw) (at_ : Int) (W : World) (va : Value) (gf : RepRws (fun k => k < W.heap.size) W facts va) (hat : I64 at_) :
  Calls Try.prog 5 #[va, .int .i64 at_] W fun e W' => e = .returned (.bool true) ∧ Below W.heap.size W W' := by
 obtain ⟨qa, qc, rfl⟩ := SlG.form gf;have GF := Lib.hid gf;have HAT := Lib.hid hat;clear gf hat;go_enter Try.func5, Try.ntmps5
 go_wp2_with fail
 refine (awake11_any W).mono ?_;rintro e w1 ⟨rfl, hb⟩;have B := Lib.hid hb;clear hb;go_wp2_with fail
 refine (rows_any facts (fun k => k < W.heap.size) w1 _ (fun k hk => Nat.lt_of_lt_of_le hk B.out.size) (SlG.on (fun _ h => h) (fun k hk => B.out.block k hk) (fun _ _ _ h => h) GF.out)).mono ?_;rintro e w2 ⟨hb, lv, rfl, hm⟩;have HR := Lib.hid (right_rowsZ facts);have HST := Lib.hid (stamp_rowsZ facts);have HL40 := Lib.hid (len_rowsZ facts);have hros : RosP (rowsZ facts) w2 lv := RosP.of (MineS.slg hm (by have := HL40.out; omega)) (fun k hk => hk.2);replace B := Lib.hid (Below.step B.out hb);clear hm hb GF;generalize rowsZ facts = L at *;obtain ⟨la, lc, rfl⟩ := SlG.form hros;have HL := Lib.hid hros;have hL63 : L.length ≤ 40 := HL40.out;clear hros;obtain ⟨n, hn, hn2⟩ := pick_nat at_ 2 (by omega);have hwr := wrap_one n hn2;obtain ⟨ka, hK⟩ : ∃ ka, n + 1 = ka := ⟨_, rfl⟩;rw [hK] at hwr;have HK : Hid (1 ≤ ka ∧ ka ≤ 2) := ⟨by omega, by omega⟩;have HN : Hid (pickZ at_ ((2 : Nat) : Int) = (n : Int)) := hn;clear hn hn2 hK;go_wp2_with fail
 refine (pick11_any at_ 2 w2 HAT.out (by omega) (by omega)).mono ?_;rintro e w3 ⟨rfl, rfl⟩;rw [show pickZ at_ 2 = (n : Int) from HN.out];clear HN;go_wp2_with fail
 clear hwr;go_loopw [8] (fun sv wr => ∃ s : Int, (s = -1 ∨ s = 1 ∨ s = 3) ∧ sv = .int .i64 s ∧ Hid (Below w2.heap.size w2 wr)) (fun sv _ => (3 - intOf sv).toNat)
 case atStart => exact ⟨-1, .inl rfl, rfl, Below.refl _ _⟩
 case round =>
  obtain ⟨s, hs, rfl, hbi⟩ := hrel;generalize wr = wo at *;have HLW : Hid (RosP L wo (.slice la L.length lc)) := HL.out.on hbi.out;rcases hs with rfl | rfl | rfl
  ·skip
   go_wp2_with fail
   refine (group_any sMin (ka : Int) L (fun k => k < wo.heap.size) wo _ (by have := HK.out; unfold I64; omega) (fun _ h => h) HLW.out).mono ?_;rintro e w4 ⟨hb, G, v, rfl, -, hgi, hv⟩;have hgi := hgi agg_min (by have := HK.out; omega);rw [Int.toNat_natCast] at hgi;have HEN := Lib.hid (ends_min HR.out hgi);have hros : RosP G w4 v := RosP.of hv (fun k hk => hk.2);have HBO := Lib.hid (Below.step hbi.out hb);have HL : Hid (RosP L w4 (.slice la L.length lc)) := HLW.out.on hb;have HBW := Lib.hid hb;obtain ⟨ga, gc, rfl⟩ := SlG.form hros;have HG := Lib.hid hros;have hG63 : G.length * 48 ≤ 140737488355328 := SlG.bytes hros;clear hb hgi hv hros hbi HLW;go_wp2_with fail
   go_loopw [11] (fun iv wr => ∃ i : Nat, i ≤ G.length ∧ iv = .int .i64 (i : Int) ∧ Hid (Below w4.heap.size w4 wr)) (fun iv _ => G.length - (intOf iv).toNat)
   case atStart => exact ⟨0, Nat.zero_le _, rfl, Below.refl _ _⟩
   case round =>
    obtain ⟨i, hi, rfl, hbj⟩ := hrel;generalize wr = wp at *
    by_cases hlt : i < G.length
    ·have HIG := Lib.hid hlt
     have HENI := Lib.hid (HEN.out G[i] (List.getElem_mem HIG.out));have HBP := hbj;have k1 : decide ((i : Int) < (G.length : Int)) = true := decide_eq_true (by omega);have k2 : decide (i < G.length) = true := decide_eq_true (by omega);have k3 : (0 : Int) ≤ (i : Int) := Int.natCast_nonneg _;have k4 : (i : Int) < (G.length : Int) := by omega
     clear hlt hi hbj;go_wp2_with fail
     clear k1 k2 k3 k4;go_loopw [12, 13] (fun bv jv wr => ∃ q : Nat, q ≤ L.length ∧ jv = .int .i64 (q : Int) ∧ bv = .bool (thereB ka (G[i]'HIG.out) (L.take q)) ∧ Hid (Below w4.heap.size w4 wr)) (fun _ jv _ => L.length - (intOf jv).toNat)
     case atStart => exact ⟨0, Nat.zero_le _, rfl, by rw [List.take_zero, thereB_nil], HBP.out⟩
     case round =>
      obtain ⟨q, hq, rfl, rfl, hbq⟩ := hrel
      by_cases hlq : q < L.length
      ·have HLY := Lib.hid (List.getElem_mem hlq)
       obtain ⟨xb, xo, xf, xc, hex, hSx, x0, x1, x2, hx, -⟩ := RosP.at HG.out hbq.out i HIG.out;subst hex;obtain ⟨yb, yo, yf, yc, hey, hSy, y0, y1, y2, hy, -⟩ := RosP.at HL.out hbq.out q hlq;subst hey;have HX := Lib.hid hx; have HY := Lib.hid hy; have HSZ : Hid (w4.heap.size ≤ wr.heap.size) := hbq.out.size
       have HTK : Hid (L.take (q + 1) = L.take q ++ [L[q]]) := List.take_succ_eq_append_getElem hlq;obtain ⟨v, hv⟩ : ∃ v, alikeB (ka : Int) (G[i]'HIG.out) L[q] = v := ⟨_, rfl⟩;have HV := Lib.hid hv;have HNEA : Hid (AlikeP (ka : Int) (G[i]'HIG.out) L[q] → cmpV (argR ka L[q]) (argR ka (G[i]'HIG.out)) * (-1) ≤ 0) := HENI.out.2.2 L[q] (List.getElem_mem hlq);have HXL : Hid (ka < (G[i]'HIG.out).args.length) := HENI.out.1;have HLQ := Lib.hid hlq;have k1 : decide ((q : Int) < (L.length : Int)) = true := decide_eq_true (by omega);have k2 : decide (q < L.length) = true := decide_eq_true (by omega);have k3 : (0 : Int) ≤ (q : Int) := Int.natCast_nonneg _;have k4 : (q : Int) < (L.length : Int) := by omega
       have k5 : (0 : Int) ≤ (i : Int) := Int.natCast_nonneg _;have k6 : (i : Int) < (G.length : Int) := by have := HIG.out; omega
       clear hx hy hSx hSy hq hv;generalize hyy : L[q] = y at *;generalize hxx : G[i]'HIG.out = x at *;clear hxx hyy hlq;go_upto_region 18 with fail
       cases v
       ·have HNA : Hid (¬ AlikeP (ka : Int) x y) := fun h => by have := HV.out; rw [alikeB_yes h] at this; cases this
        refine wp_region_factsG (by rfl) 83 (by rfl) (by kernel_rfl) (FA [.e (.slice (some ⟨xb, xo, none⟩) G.length gc), .e (.int .i64 (i : Int)), .e (.pointer (some ⟨xb, xo + i * 3, none⟩)), .e (.agg #[.string x.name, .slice xf x.args.length xc, .int .i64 x.stamp]), .e (.slice (some ⟨yb, yo, none⟩) L.length lc), .e (.int .i64 (q : Int)), .e (.pointer (some ⟨yb, yo + q * 3, none⟩)), .e (.agg #[.string y.name, .slice yf y.args.length yc, .int .i64 y.stamp]), .e (.int .i64 (ka : Int)), .e (.bool false), .e (.bool true)]) (fun w' => Below wr.heap.size wr w') (Below.drew (Below.refl _ _)) ⟨?aa0, ?aa1, ?aa2, ?aa3, ?aa4, ?aa5, ?aa6, ?aa7, ?aa8, ?aa9, ?aa10, trivial⟩ ?aafin
        case aa0 =>
         intro a w' hoff hg hdep K hK;have h10 := off_at hoff 10 (v := .slice (some ⟨xb, xo, none⟩) G.length gc) (by kernel_rfl) rfl;rw [if_pos (by rfl)];go_simp;exact hK.out _ _ hg rfl (fun _ _ h => h)
        case aa1 =>
         intro a w' hoff hg hdep K hK;have h11 := off_at hoff 11 (v := .int .i64 (i : Int)) (by kernel_rfl) rfl;rw [if_pos (by rfl)];go_simp;exact hK.out _ _ hg rfl (fun _ _ h => h)
        case aa2 =>
         intro a w' hoff hg hdep K hK;obtain ⟨_, e0, rfl⟩ := hdep 0 _ 43 (by kernel_rfl) rfl rfl;obtain ⟨_, e1, rfl⟩ := hdep 1 _ 44 (by kernel_rfl) rfl rfl;rw [if_pos (by rfl)];go_simp;exact hK.out _ _ hg rfl (fun _ _ h => h)
        case aa3 =>
         intro a w' hoff hg hdep K hK;obtain ⟨_, e2, rfl⟩ := hdep 2 _ 45 (by kernel_rfl) rfl rfl;rw [if_pos (by rfl)];have q0 := (hg.cell (p := ⟨xb, xo + i * 3, none⟩) (cell_lt x0)).trans x0;have q1 := (hg.cell (p := ⟨xb, xo + i * 3 + 1, none⟩) (cell_lt x1)).trans x1;have q2 := (hg.cell (p := ⟨xb, xo + i * 3 + 2, none⟩) (cell_lt x2)).trans x2;go_simp;exact hK.out _ _ hg rfl (fun _ _ h => h)
        case aa4 =>
         intro a w' hoff hg hdep K hK;have h6 := off_at hoff 6 (v := .slice (some ⟨yb, yo, none⟩) L.length lc) (by kernel_rfl) rfl;rw [if_pos (by rfl)];go_simp;exact hK.out _ _ hg rfl (fun _ _ h => h)
        case aa5 =>
         intro a w' hoff hg hdep K hK;have h13 := off_at hoff 13 (v := .int .i64 (q : Int)) (by kernel_rfl) rfl;rw [if_pos (by rfl)];go_simp;exact hK.out _ _ hg rfl (fun _ _ h => h)
        case aa6 =>
         intro a w' hoff hg hdep K hK;obtain ⟨_, e4, rfl⟩ := hdep 4 _ 47 (by kernel_rfl) rfl rfl;obtain ⟨_, e5, rfl⟩ := hdep 5 _ 48 (by kernel_rfl) rfl rfl;rw [if_pos (by rfl)];go_simp;exact hK.out _ _ hg rfl (fun _ _ h => h)
        case aa7 =>
         intro a w' hoff hg hdep K hK;obtain ⟨_, e6, rfl⟩ := hdep 6 _ 49 (by kernel_rfl) rfl rfl;rw [if_pos (by rfl)];have q0 := (hg.cell (p := ⟨yb, yo + q * 3, none⟩) (cell_lt y0)).trans y0;have q1 := (hg.cell (p := ⟨yb, yo + q * 3 + 1, none⟩) (cell_lt y1)).trans y1;have q2 := (hg.cell (p := ⟨yb, yo + q * 3 + 2, none⟩) (cell_lt y2)).trans y2;go_simp;exact hK.out _ _ hg rfl (fun _ _ h => h)
        case aa8 =>
         intro a w' hoff hg hdep K hK;have h7 := off_at hoff 7 (v := .int .i64 (ka : Int)) (by kernel_rfl) rfl;rw [if_pos (by rfl)];go_simp;exact hK.out _ _ hg rfl (fun _ _ h => h)
        case aa9 =>
         intro a w' hoff hg hdep K hK;obtain ⟨_, e3, rfl⟩ := hdep 3 _ 46 (by kernel_rfl) rfl rfl;obtain ⟨_, e7, rfl⟩ := hdep 7 _ 50 (by kernel_rfl) rfl rfl;obtain ⟨_, e8, rfl⟩ := hdep 8 _ 51 (by kernel_rfl) rfl rfl;rw [if_pos (by rfl)];go_simp;refine (alike_any x y (ka : Int) (fun k => k < w4.heap.size) w' _ _ (fun k hk => Nat.lt_of_lt_of_le hk (Nat.le_trans HSZ.out hg.size)) (RepRo.on (fun _ h => h) (fun k hk => hg.block k (Nat.lt_of_lt_of_le hk HSZ.out)) HX.out) (RepRo.on (fun _ h => h) (fun k hk => hg.block k (Nat.lt_of_lt_of_le hk HSZ.out)) HY.out)).mono ?_;rintro e w6 ⟨rfl, hb⟩;rw [HV.out];exact hK.out _ _ (Below.step hg hb) rfl (fSt trivial)
        case aa10 =>
         intro a w' hoff hg hdep K hK;obtain ⟨_, e9, rfl⟩ := hdep 9 _ 52 (by kernel_rfl) rfl rfl;rw [if_pos (by rfl)];go_simp;exact hK.out _ _ hg rfl (fun _ _ h => h)
        case aafin =>
         intro a w' hoff hg hf;obtain ⟨_, e0, rfl⟩ := hf 0 _ 43 rfl rfl;obtain ⟨_, e1, rfl⟩ := hf 1 _ 44 rfl rfl;obtain ⟨_, e2, rfl⟩ := hf 2 _ 45 rfl rfl;obtain ⟨_, e3, rfl⟩ := hf 3 _ 46 rfl rfl;obtain ⟨_, e4, rfl⟩ := hf 4 _ 47 rfl rfl;obtain ⟨_, e5, rfl⟩ := hf 5 _ 48 rfl rfl;obtain ⟨_, e6, rfl⟩ := hf 6 _ 49 rfl rfl;obtain ⟨_, e7, rfl⟩ := hf 7 _ 50 rfl rfl;obtain ⟨_, e8, rfl⟩ := hf 8 _ 51 rfl rfl;obtain ⟨_, e9, rfl⟩ := hf 9 _ 52 rfl rfl;obtain ⟨_, e10, rfl⟩ := hf 10 _ 53 rfl rfl;rw [hoff.sets [(43, .slice (some ⟨xb, xo, none⟩) G.length gc), (44, .int .i64 (i : Int)), (45, .pointer (some ⟨xb, xo + i * 3, none⟩)), (46, .agg #[.string x.name, .slice xf x.args.length xc, .int .i64 x.stamp]), (47, .slice (some ⟨yb, yo, none⟩) L.length lc), (48, .int .i64 (q : Int)), (49, .pointer (some ⟨yb, yo + q * 3, none⟩)), (50, .agg #[.string y.name, .slice yf y.args.length yc, .int .i64 y.stamp]), (51, .int .i64 (ka : Int)), (52, .bool false), (53, .bool true)] (by kernel_rfl) (by intro p hp; simp only [List.mem_cons, List.not_mem_nil, or_false] at hp; rcases hp with rfl | rfl | rfl | rfl | rfl | rfl | rfl | rfl | rfl | rfl | rfl <;> assumption)];clear hoff hf e0 e1 e2 e3 e4 e5 e6 e7 e8 e9 e10;simp only [List.foldl_cons, List.foldl_nil, List.setIfInBounds_toArray, List.set_cons_zero, List.set_cons_succ]
         have HBE := Lib.hid (Below.step hbq.out hg);clear hg hbq x0 x1 x2 y0 y1 y2;go_wp2_with fail
         go_roundw
         case rel => exact ⟨q + 1, HLQ.out, by go_num, by rw [HTK.out, thereB_miss (fun h => HNA.out h.1)], HBE.out⟩
         case measure => have := HLQ.out; simp [intOf]; omega
       ·have HNA : Hid (AlikeP (ka : Int) x y) := Classical.byContradiction fun h => by have := HV.out; rw [alikeB_no h] at this; cases this
        have HNE := Lib.hid (HNEA.out HNA.out);clear HNEA;refine wp_region_factsG (by rfl) 83 (by rfl) (by kernel_rfl) (FA [.e (.slice (some ⟨xb, xo, none⟩) G.length gc), .e (.int .i64 (i : Int)), .e (.pointer (some ⟨xb, xo + i * 3, none⟩)), .e (.agg #[.string x.name, .slice xf x.args.length xc, .int .i64 x.stamp]), .e (.slice (some ⟨yb, yo, none⟩) L.length lc), .e (.int .i64 (q : Int)), .e (.pointer (some ⟨yb, yo + q * 3, none⟩)), .e (.agg #[.string y.name, .slice yf y.args.length yc, .int .i64 y.stamp]), .e (.int .i64 (ka : Int)), .e (.bool true), .e (.bool false)]) (fun w' => Below wr.heap.size wr w') (Below.drew (Below.refl _ _)) ⟨?ab0, ?ab1, ?ab2, ?ab3, ?ab4, ?ab5, ?ab6, ?ab7, ?ab8, ?ab9, ?ab10, trivial⟩ ?abfin
        case ab0 =>
         intro a w' hoff hg hdep K hK;have h10 := off_at hoff 10 (v := .slice (some ⟨xb, xo, none⟩) G.length gc) (by kernel_rfl) rfl;rw [if_pos (by rfl)];go_simp;exact hK.out _ _ hg rfl (fun _ _ h => h)
        case ab1 =>
         intro a w' hoff hg hdep K hK;have h11 := off_at hoff 11 (v := .int .i64 (i : Int)) (by kernel_rfl) rfl;rw [if_pos (by rfl)];go_simp;exact hK.out _ _ hg rfl (fun _ _ h => h)
        case ab2 =>
         intro a w' hoff hg hdep K hK;obtain ⟨_, e0, rfl⟩ := hdep 0 _ 43 (by kernel_rfl) rfl rfl;obtain ⟨_, e1, rfl⟩ := hdep 1 _ 44 (by kernel_rfl) rfl rfl;rw [if_pos (by rfl)];go_simp;exact hK.out _ _ hg rfl (fun _ _ h => h)
        case ab3 =>
         intro a w' hoff hg hdep K hK;obtain ⟨_, e2, rfl⟩ := hdep 2 _ 45 (by kernel_rfl) rfl rfl;rw [if_pos (by rfl)];have q0 := (hg.cell (p := ⟨xb, xo + i * 3, none⟩) (cell_lt x0)).trans x0;have q1 := (hg.cell (p := ⟨xb, xo + i * 3 + 1, none⟩) (cell_lt x1)).trans x1;have q2 := (hg.cell (p := ⟨xb, xo + i * 3 + 2, none⟩) (cell_lt x2)).trans x2;go_simp;exact hK.out _ _ hg rfl (fun _ _ h => h)
        case ab4 =>
         intro a w' hoff hg hdep K hK;have h6 := off_at hoff 6 (v := .slice (some ⟨yb, yo, none⟩) L.length lc) (by kernel_rfl) rfl;rw [if_pos (by rfl)];go_simp;exact hK.out _ _ hg rfl (fun _ _ h => h)
        case ab5 =>
         intro a w' hoff hg hdep K hK;have h13 := off_at hoff 13 (v := .int .i64 (q : Int)) (by kernel_rfl) rfl;rw [if_pos (by rfl)];go_simp;exact hK.out _ _ hg rfl (fun _ _ h => h)
        case ab6 =>
         intro a w' hoff hg hdep K hK;obtain ⟨_, e4, rfl⟩ := hdep 4 _ 47 (by kernel_rfl) rfl rfl;obtain ⟨_, e5, rfl⟩ := hdep 5 _ 48 (by kernel_rfl) rfl rfl;rw [if_pos (by rfl)];go_simp;exact hK.out _ _ hg rfl (fun _ _ h => h)
        case ab7 =>
         intro a w' hoff hg hdep K hK;obtain ⟨_, e6, rfl⟩ := hdep 6 _ 49 (by kernel_rfl) rfl rfl;rw [if_pos (by rfl)];have q0 := (hg.cell (p := ⟨yb, yo + q * 3, none⟩) (cell_lt y0)).trans y0;have q1 := (hg.cell (p := ⟨yb, yo + q * 3 + 1, none⟩) (cell_lt y1)).trans y1;have q2 := (hg.cell (p := ⟨yb, yo + q * 3 + 2, none⟩) (cell_lt y2)).trans y2;go_simp;exact hK.out _ _ hg rfl (fun _ _ h => h)
        case ab8 =>
         intro a w' hoff hg hdep K hK;have h7 := off_at hoff 7 (v := .int .i64 (ka : Int)) (by kernel_rfl) rfl;rw [if_pos (by rfl)];go_simp;exact hK.out _ _ hg rfl (fun _ _ h => h)
        case ab9 =>
         intro a w' hoff hg hdep K hK;obtain ⟨_, e3, rfl⟩ := hdep 3 _ 46 (by kernel_rfl) rfl rfl;obtain ⟨_, e7, rfl⟩ := hdep 7 _ 50 (by kernel_rfl) rfl rfl;obtain ⟨_, e8, rfl⟩ := hdep 8 _ 51 (by kernel_rfl) rfl rfl;rw [if_pos (by rfl)];go_simp;refine (alike_any x y (ka : Int) (fun k => k < w4.heap.size) w' _ _ (fun k hk => Nat.lt_of_lt_of_le hk (Nat.le_trans HSZ.out hg.size)) (RepRo.on (fun _ h => h) (fun k hk => hg.block k (Nat.lt_of_lt_of_le hk HSZ.out)) HX.out) (RepRo.on (fun _ h => h) (fun k hk => hg.block k (Nat.lt_of_lt_of_le hk HSZ.out)) HY.out)).mono ?_;rintro e w6 ⟨rfl, hb⟩;rw [HV.out];exact hK.out _ _ (Below.step hg hb) rfl (fSt trivial)
        case ab10 =>
         intro a w' hoff hg hdep K hK;obtain ⟨_, e9, rfl⟩ := hdep 9 _ 52 (by kernel_rfl) rfl rfl;rw [if_pos (by rfl)];go_simp;exact hK.out _ _ hg rfl (fun _ _ h => h)
        case abfin =>
         intro a w' hoff hg hf;obtain ⟨_, e0, rfl⟩ := hf 0 _ 43 rfl rfl;obtain ⟨_, e1, rfl⟩ := hf 1 _ 44 rfl rfl;obtain ⟨_, e2, rfl⟩ := hf 2 _ 45 rfl rfl;obtain ⟨_, e3, rfl⟩ := hf 3 _ 46 rfl rfl;obtain ⟨_, e4, rfl⟩ := hf 4 _ 47 rfl rfl;obtain ⟨_, e5, rfl⟩ := hf 5 _ 48 rfl rfl;obtain ⟨_, e6, rfl⟩ := hf 6 _ 49 rfl rfl;obtain ⟨_, e7, rfl⟩ := hf 7 _ 50 rfl rfl;obtain ⟨_, e8, rfl⟩ := hf 8 _ 51 rfl rfl;obtain ⟨_, e9, rfl⟩ := hf 9 _ 52 rfl rfl;obtain ⟨_, e10, rfl⟩ := hf 10 _ 53 rfl rfl;rw [hoff.sets [(43, .slice (some ⟨xb, xo, none⟩) G.length gc), (44, .int .i64 (i : Int)), (45, .pointer (some ⟨xb, xo + i * 3, none⟩)), (46, .agg #[.string x.name, .slice xf x.args.length xc, .int .i64 x.stamp]), (47, .slice (some ⟨yb, yo, none⟩) L.length lc), (48, .int .i64 (q : Int)), (49, .pointer (some ⟨yb, yo + q * 3, none⟩)), (50, .agg #[.string y.name, .slice yf y.args.length yc, .int .i64 y.stamp]), (51, .int .i64 (ka : Int)), (52, .bool true), (53, .bool false)] (by kernel_rfl) (by intro p hp; simp only [List.mem_cons, List.not_mem_nil, or_false] at hp; rcases hp with rfl | rfl | rfl | rfl | rfl | rfl | rfl | rfl | rfl | rfl | rfl <;> assumption)];clear hoff hf e0 e1 e2 e3 e4 e5 e6 e7 e8 e9 e10;simp only [List.foldl_cons, List.foldl_nil, List.setIfInBounds_toArray, List.set_cons_zero, List.set_cons_succ]
         have HBN := Lib.hid (Below.step hbq.out hg);have HSN : Hid (w4.heap.size ≤ w'.heap.size) := Nat.le_trans HSZ.out hg.size;replace x0 := (hg.cell (cell_lt x0)).trans x0;replace x1 := (hg.cell (cell_lt x1)).trans x1;replace y0 := (hg.cell (cell_lt y0)).trans y0;replace y1 := (hg.cell (cell_lt y1)).trans y1;replace HX := Lib.hid (RepRo.on (fun _ h => h) (fun k hk => hg.block k (Nat.lt_of_lt_of_le hk HSZ.out)) HX.out);replace HY := Lib.hid (RepRo.on (fun _ h => h) (fun k hk => hg.block k (Nat.lt_of_lt_of_le hk HSZ.out)) HY.out);clear hg hbq x2 y2 HSZ;have HSZ := HSN;clear HSN;generalize w' = wn at *;have HNX : Hid (ka < x.args.length) := HXL.out;have HNY : Hid (ka < y.args.length) := by show _ < _; rw [← HNA.out.2.1]; exact HXL.out
         obtain ⟨ub, uo, ua, uac, hue, u0, u1, u2, u3, hu⟩ := arg_of HY.out HNY.out;obtain ⟨rb, ro, ra, rac, hte, r0, r1, r2, r3, ht⟩ := arg_of HX.out HNX.out;subst hue hte;have HU := Lib.hid hu; have HT := Lib.hid ht
         clear hu ht;go_upto_region 19 with fail
         rcases cmp_11 (argR ka y) (argR ka x) with hc | hc | hc
         ·have HC := Lib.hid hc
          clear hc;exact absurd HNE.out (by rw [HC.out]; decide)
         ·have HC := Lib.hid hc
          clear hc;refine wp_region_factsG (by rfl) 83 (by rfl) (by kernel_rfl) (FA [.e (.slice (some ⟨yb, yo, none⟩) L.length lc), .e (.int .i64 (q : Int)), .e (.pointer (some ⟨yb, yo + q * 3, none⟩)), .e (.pointer (some ⟨yb, yo + q * 3 + 1, none⟩)), .e (.slice (some ⟨ub, uo, none⟩) y.args.length yc), .e (.int .i64 (ka : Int)), .e (.pointer (some ⟨ub, uo + ka * 4, none⟩)), .e (.agg #[.int .i64 (argR ka y).kind, .int .i64 (argR ka y).num, .string (argR ka y).text, .slice ua (argR ka y).list.length uac]), .e (.slice (some ⟨xb, xo, none⟩) G.length gc), .e (.int .i64 (i : Int)), .e (.pointer (some ⟨xb, xo + i * 3, none⟩)), .e (.pointer (some ⟨xb, xo + i * 3 + 1, none⟩)), .e (.slice (some ⟨rb, ro, none⟩) x.args.length xc), .e (.int .i64 (ka : Int)), .e (.pointer (some ⟨rb, ro + ka * 4, none⟩)), .e (.agg #[.int .i64 (argR ka x).kind, .int .i64 (argR ka x).num, .string (argR ka x).text, .slice ra (argR ka x).list.length rac]), .e (.int .i64 0), .e (.int .i64 0)]) (fun w' => Below wn.heap.size wn w') (Below.drew (Below.refl _ _)) ⟨?ad0, ?ad1, ?ad2, ?ad3, ?ad4, ?ad5, ?ad6, ?ad7, ?ad8, ?ad9, ?ad10, ?ad11, ?ad12, ?ad13, ?ad14, ?ad15, ?ad16, ?ad17, trivial⟩ ?adfin
          case ad0 =>
           intro a w' hoff hg hdep K hK;have h6 := off_at hoff 6 (v := .slice (some ⟨yb, yo, none⟩) L.length lc) (by kernel_rfl) rfl;rw [if_pos (by rfl)];go_simp;exact hK.out _ _ hg rfl (fun _ _ h => h)
          case ad1 =>
           intro a w' hoff hg hdep K hK;have h13 := off_at hoff 13 (v := .int .i64 (q : Int)) (by kernel_rfl) rfl;rw [if_pos (by rfl)];go_simp;exact hK.out _ _ hg rfl (fun _ _ h => h)
          case ad2 =>
           intro a w' hoff hg hdep K hK;obtain ⟨_, e0, rfl⟩ := hdep 0 _ 54 (by kernel_rfl) rfl rfl;obtain ⟨_, e1, rfl⟩ := hdep 1 _ 55 (by kernel_rfl) rfl rfl;rw [if_pos (by rfl)];go_simp;exact hK.out _ _ hg rfl (fun _ _ h => h)
          case ad3 =>
           intro a w' hoff hg hdep K hK;obtain ⟨_, e2, rfl⟩ := hdep 2 _ 56 (by kernel_rfl) rfl rfl;rw [if_pos (by rfl)];go_simp;exact hK.out _ _ hg rfl (fun _ _ h => h)
          case ad4 =>
           intro a w' hoff hg hdep K hK;obtain ⟨_, e3, rfl⟩ := hdep 3 _ 57 (by kernel_rfl) rfl rfl;rw [if_pos (by rfl)];have q1 := (hg.cell (p := ⟨yb, yo + q * 3 + 1, none⟩) (cell_lt y1)).trans y1;go_simp;exact hK.out _ _ hg rfl (fun _ _ h => h)
          case ad5 =>
           intro a w' hoff hg hdep K hK;have h7 := off_at hoff 7 (v := .int .i64 (ka : Int)) (by kernel_rfl) rfl;rw [if_pos (by rfl)];go_simp;exact hK.out _ _ hg rfl (fun _ _ h => h)
          case ad6 =>
           intro a w' hoff hg hdep K hK;obtain ⟨_, e4, rfl⟩ := hdep 4 _ 58 (by kernel_rfl) rfl rfl;obtain ⟨_, e5, rfl⟩ := hdep 5 _ 59 (by kernel_rfl) rfl rfl;rw [if_pos (by rfl)];have b1 : (ka : Int) < (y.args.length : Int) := by have := HNY.out; omega
           have b2 : (0 : Int) ≤ (ka : Int) := Int.natCast_nonneg _;go_simp;exact hK.out _ _ hg rfl (fun _ _ h => h)
          case ad7 =>
           intro a w' hoff hg hdep K hK;obtain ⟨_, e6, rfl⟩ := hdep 6 _ 60 (by kernel_rfl) rfl rfl;rw [if_pos (by rfl)];have q0 := (hg.cell (p := ⟨ub, uo + ka * 4, none⟩) (cell_lt u0)).trans u0;have q1 := (hg.cell (p := ⟨ub, uo + ka * 4 + 1, none⟩) (cell_lt u1)).trans u1;have q2 := (hg.cell (p := ⟨ub, uo + ka * 4 + 2, none⟩) (cell_lt u2)).trans u2;have q3 := (hg.cell (p := ⟨ub, uo + ka * 4 + 3, none⟩) (cell_lt u3)).trans u3;go_simp;exact hK.out _ _ hg rfl (fun _ _ h => h)
          case ad8 =>
           intro a w' hoff hg hdep K hK;have h10 := off_at hoff 10 (v := .slice (some ⟨xb, xo, none⟩) G.length gc) (by kernel_rfl) rfl;rw [if_pos (by rfl)];go_simp;exact hK.out _ _ hg rfl (fun _ _ h => h)
          case ad9 =>
           intro a w' hoff hg hdep K hK;have h11 := off_at hoff 11 (v := .int .i64 (i : Int)) (by kernel_rfl) rfl;rw [if_pos (by rfl)];go_simp;exact hK.out _ _ hg rfl (fun _ _ h => h)
          case ad10 =>
           intro a w' hoff hg hdep K hK;obtain ⟨_, e8, rfl⟩ := hdep 8 _ 62 (by kernel_rfl) rfl rfl;obtain ⟨_, e9, rfl⟩ := hdep 9 _ 63 (by kernel_rfl) rfl rfl;rw [if_pos (by rfl)];go_simp;exact hK.out _ _ hg rfl (fun _ _ h => h)
          case ad11 =>
           intro a w' hoff hg hdep K hK;obtain ⟨_, e10, rfl⟩ := hdep 10 _ 64 (by kernel_rfl) rfl rfl;rw [if_pos (by rfl)];go_simp;exact hK.out _ _ hg rfl (fun _ _ h => h)
          case ad12 =>
           intro a w' hoff hg hdep K hK;obtain ⟨_, e11, rfl⟩ := hdep 11 _ 65 (by kernel_rfl) rfl rfl;rw [if_pos (by rfl)];have q1 := (hg.cell (p := ⟨xb, xo + i * 3 + 1, none⟩) (cell_lt x1)).trans x1;go_simp;exact hK.out _ _ hg rfl (fun _ _ h => h)
          case ad13 =>
           intro a w' hoff hg hdep K hK;have h7 := off_at hoff 7 (v := .int .i64 (ka : Int)) (by kernel_rfl) rfl;rw [if_pos (by rfl)];go_simp;exact hK.out _ _ hg rfl (fun _ _ h => h)
          case ad14 =>
           intro a w' hoff hg hdep K hK;obtain ⟨_, e12, rfl⟩ := hdep 12 _ 66 (by kernel_rfl) rfl rfl;obtain ⟨_, e13, rfl⟩ := hdep 13 _ 67 (by kernel_rfl) rfl rfl;rw [if_pos (by rfl)];have b1 : (ka : Int) < (x.args.length : Int) := by have := HNX.out; omega
           have b2 : (0 : Int) ≤ (ka : Int) := Int.natCast_nonneg _;go_simp;exact hK.out _ _ hg rfl (fun _ _ h => h)
          case ad15 =>
           intro a w' hoff hg hdep K hK;obtain ⟨_, e14, rfl⟩ := hdep 14 _ 68 (by kernel_rfl) rfl rfl;rw [if_pos (by rfl)];have q0 := (hg.cell (p := ⟨rb, ro + ka * 4, none⟩) (cell_lt r0)).trans r0;have q1 := (hg.cell (p := ⟨rb, ro + ka * 4 + 1, none⟩) (cell_lt r1)).trans r1;have q2 := (hg.cell (p := ⟨rb, ro + ka * 4 + 2, none⟩) (cell_lt r2)).trans r2;have q3 := (hg.cell (p := ⟨rb, ro + ka * 4 + 3, none⟩) (cell_lt r3)).trans r3;go_simp;exact hK.out _ _ hg rfl (fun _ _ h => h)
          case ad16 =>
           intro a w' hoff hg hdep K hK;obtain ⟨_, e7, rfl⟩ := hdep 7 _ 61 (by kernel_rfl) rfl rfl;obtain ⟨_, e15, rfl⟩ := hdep 15 _ 69 (by kernel_rfl) rfl rfl;rw [if_pos (by rfl)];go_simp;refine (cmp_any (argR ka y) (argR ka x) w'.heap.size w' _ _ _ _ _ _ _ _ (Nat.le_refl _) (RepG.on (fun k hk => Nat.lt_of_lt_of_le (Nat.lt_of_lt_of_le hk HSZ.out) hg.size) (fun k hk => hg.block k (Nat.lt_of_lt_of_le hk HSZ.out)) _ HU.out) (RepG.on (fun k hk => Nat.lt_of_lt_of_le (Nat.lt_of_lt_of_le hk HSZ.out) hg.size) (fun k hk => hg.block k (Nat.lt_of_lt_of_le hk HSZ.out)) _ HT.out)).mono ?_;rintro e w6 ⟨rfl, hb⟩;rw [HC.out];exact hK.out _ _ (Below.step hg hb) rfl (fSt trivial)
          case ad17 =>
           intro a w' hoff hg hdep K hK;obtain ⟨_, e16, rfl⟩ := hdep 16 _ 70 (by kernel_rfl) rfl rfl;rw [if_pos (by rfl)];go_simp;exact hK.out _ _ hg rfl (fun _ _ h => h)
          case adfin =>
           intro a w' hoff hg hf;obtain ⟨_, e0, rfl⟩ := hf 0 _ 54 rfl rfl;obtain ⟨_, e1, rfl⟩ := hf 1 _ 55 rfl rfl;obtain ⟨_, e2, rfl⟩ := hf 2 _ 56 rfl rfl;obtain ⟨_, e3, rfl⟩ := hf 3 _ 57 rfl rfl;obtain ⟨_, e4, rfl⟩ := hf 4 _ 58 rfl rfl;obtain ⟨_, e5, rfl⟩ := hf 5 _ 59 rfl rfl;obtain ⟨_, e6, rfl⟩ := hf 6 _ 60 rfl rfl;obtain ⟨_, e7, rfl⟩ := hf 7 _ 61 rfl rfl;obtain ⟨_, e8, rfl⟩ := hf 8 _ 62 rfl rfl;obtain ⟨_, e9, rfl⟩ := hf 9 _ 63 rfl rfl;obtain ⟨_, e10, rfl⟩ := hf 10 _ 64 rfl rfl;obtain ⟨_, e11, rfl⟩ := hf 11 _ 65 rfl rfl;obtain ⟨_, e12, rfl⟩ := hf 12 _ 66 rfl rfl;obtain ⟨_, e13, rfl⟩ := hf 13 _ 67 rfl rfl;obtain ⟨_, e14, rfl⟩ := hf 14 _ 68 rfl rfl;obtain ⟨_, e15, rfl⟩ := hf 15 _ 69 rfl rfl;obtain ⟨_, e16, rfl⟩ := hf 16 _ 70 rfl rfl;obtain ⟨_, e17, rfl⟩ := hf 17 _ 14 rfl rfl;rw [hoff.sets [(54, .slice (some ⟨yb, yo, none⟩) L.length lc), (55, .int .i64 (q : Int)), (56, .pointer (some ⟨yb, yo + q * 3, none⟩)), (57, .pointer (some ⟨yb, yo + q * 3 + 1, none⟩)), (58, .slice (some ⟨ub, uo, none⟩) y.args.length yc), (59, .int .i64 (ka : Int)), (60, .pointer (some ⟨ub, uo + ka * 4, none⟩)), (61, .agg #[.int .i64 (argR ka y).kind, .int .i64 (argR ka y).num, .string (argR ka y).text, .slice ua (argR ka y).list.length uac]), (62, .slice (some ⟨xb, xo, none⟩) G.length gc), (63, .int .i64 (i : Int)), (64, .pointer (some ⟨xb, xo + i * 3, none⟩)), (65, .pointer (some ⟨xb, xo + i * 3 + 1, none⟩)), (66, .slice (some ⟨rb, ro, none⟩) x.args.length xc), (67, .int .i64 (ka : Int)), (68, .pointer (some ⟨rb, ro + ka * 4, none⟩)), (69, .agg #[.int .i64 (argR ka x).kind, .int .i64 (argR ka x).num, .string (argR ka x).text, .slice ra (argR ka x).list.length rac]), (70, .int .i64 0), (14, .int .i64 0)] (by kernel_rfl) (by intro p hp; simp only [List.mem_cons, List.not_mem_nil, or_false] at hp; rcases hp with rfl | rfl | rfl | rfl | rfl | rfl | rfl | rfl | rfl | rfl | rfl | rfl | rfl | rfl | rfl | rfl | rfl | rfl <;> assumption)];clear hoff hf e0 e1 e2 e3 e4 e5 e6 e7 e8 e9 e10 e11 e12 e13 e14 e15 e16 e17;simp only [List.foldl_cons, List.foldl_nil, List.setIfInBounds_toArray, List.set_cons_zero, List.set_cons_succ]
           have HBE := Lib.hid (Below.step HBN.out hg);clear hg HU HT u0 u1 u2 u3 r0 r1 r2 r3 x0 x1 y0 y1 HBN;obtain ⟨b, hb0⟩ : ∃ b, thereB ka x (L.take q) = b := ⟨_, rfl⟩;rw [hb0];clear hb0;have HNX : Hid (thereB ka x (L.take (q + 1)) = true) := by show _ = _; rw [HTK.out]; exact thereB_hit HNA.out HC.out
           cases b
           ·go_wp2_with fail
            go_roundw
            case rel => exact ⟨q + 1, HLQ.out, by go_num, by rw [HNX.out], HBE.out⟩
            case measure => have := HLQ.out; simp [intOf]; omega
           ·go_wp2_with fail
            go_roundw
            case rel => exact ⟨q + 1, HLQ.out, by go_num, by rw [HNX.out], HBE.out⟩
            case measure => have := HLQ.out; simp [intOf]; omega
         ·have HC := Lib.hid hc
          clear hc;refine wp_region_factsG (by rfl) 83 (by rfl) (by kernel_rfl) (FA [.e (.slice (some ⟨yb, yo, none⟩) L.length lc), .e (.int .i64 (q : Int)), .e (.pointer (some ⟨yb, yo + q * 3, none⟩)), .e (.pointer (some ⟨yb, yo + q * 3 + 1, none⟩)), .e (.slice (some ⟨ub, uo, none⟩) y.args.length yc), .e (.int .i64 (ka : Int)), .e (.pointer (some ⟨ub, uo + ka * 4, none⟩)), .e (.agg #[.int .i64 (argR ka y).kind, .int .i64 (argR ka y).num, .string (argR ka y).text, .slice ua (argR ka y).list.length uac]), .e (.slice (some ⟨xb, xo, none⟩) G.length gc), .e (.int .i64 (i : Int)), .e (.pointer (some ⟨xb, xo + i * 3, none⟩)), .e (.pointer (some ⟨xb, xo + i * 3 + 1, none⟩)), .e (.slice (some ⟨rb, ro, none⟩) x.args.length xc), .e (.int .i64 (ka : Int)), .e (.pointer (some ⟨rb, ro + ka * 4, none⟩)), .e (.agg #[.int .i64 (argR ka x).kind, .int .i64 (argR ka x).num, .string (argR ka x).text, .slice ra (argR ka x).list.length rac]), .e (.int .i64 1), .e (.int .i64 1)]) (fun w' => Below wn.heap.size wn w') (Below.drew (Below.refl _ _)) ⟨?ae0, ?ae1, ?ae2, ?ae3, ?ae4, ?ae5, ?ae6, ?ae7, ?ae8, ?ae9, ?ae10, ?ae11, ?ae12, ?ae13, ?ae14, ?ae15, ?ae16, ?ae17, trivial⟩ ?aefin
          case ae0 =>
           intro a w' hoff hg hdep K hK;have h6 := off_at hoff 6 (v := .slice (some ⟨yb, yo, none⟩) L.length lc) (by kernel_rfl) rfl;rw [if_pos (by rfl)];go_simp;exact hK.out _ _ hg rfl (fun _ _ h => h)
          case ae1 =>
           intro a w' hoff hg hdep K hK;have h13 := off_at hoff 13 (v := .int .i64 (q : Int)) (by kernel_rfl) rfl;rw [if_pos (by rfl)];go_simp;exact hK.out _ _ hg rfl (fun _ _ h => h)
          case ae2 =>
           intro a w' hoff hg hdep K hK;obtain ⟨_, e0, rfl⟩ := hdep 0 _ 54 (by kernel_rfl) rfl rfl;obtain ⟨_, e1, rfl⟩ := hdep 1 _ 55 (by kernel_rfl) rfl rfl;rw [if_pos (by rfl)];go_simp;exact hK.out _ _ hg rfl (fun _ _ h => h)
          case ae3 =>
           intro a w' hoff hg hdep K hK;obtain ⟨_, e2, rfl⟩ := hdep 2 _ 56 (by kernel_rfl) rfl rfl;rw [if_pos (by rfl)];go_simp;exact hK.out _ _ hg rfl (fun _ _ h => h)
          case ae4 =>
           intro a w' hoff hg hdep K hK;obtain ⟨_, e3, rfl⟩ := hdep 3 _ 57 (by kernel_rfl) rfl rfl;rw [if_pos (by rfl)];have q1 := (hg.cell (p := ⟨yb, yo + q * 3 + 1, none⟩) (cell_lt y1)).trans y1;go_simp;exact hK.out _ _ hg rfl (fun _ _ h => h)
          case ae5 =>
           intro a w' hoff hg hdep K hK;have h7 := off_at hoff 7 (v := .int .i64 (ka : Int)) (by kernel_rfl) rfl;rw [if_pos (by rfl)];go_simp;exact hK.out _ _ hg rfl (fun _ _ h => h)
          case ae6 =>
           intro a w' hoff hg hdep K hK;obtain ⟨_, e4, rfl⟩ := hdep 4 _ 58 (by kernel_rfl) rfl rfl;obtain ⟨_, e5, rfl⟩ := hdep 5 _ 59 (by kernel_rfl) rfl rfl;rw [if_pos (by rfl)];have b1 : (ka : Int) < (y.args.length : Int) := by have := HNY.out; omega
           have b2 : (0 : Int) ≤ (ka : Int) := Int.natCast_nonneg _;go_simp;exact hK.out _ _ hg rfl (fun _ _ h => h)
          case ae7 =>
           intro a w' hoff hg hdep K hK;obtain ⟨_, e6, rfl⟩ := hdep 6 _ 60 (by kernel_rfl) rfl rfl;rw [if_pos (by rfl)];have q0 := (hg.cell (p := ⟨ub, uo + ka * 4, none⟩) (cell_lt u0)).trans u0;have q1 := (hg.cell (p := ⟨ub, uo + ka * 4 + 1, none⟩) (cell_lt u1)).trans u1;have q2 := (hg.cell (p := ⟨ub, uo + ka * 4 + 2, none⟩) (cell_lt u2)).trans u2;have q3 := (hg.cell (p := ⟨ub, uo + ka * 4 + 3, none⟩) (cell_lt u3)).trans u3;go_simp;exact hK.out _ _ hg rfl (fun _ _ h => h)
          case ae8 =>
           intro a w' hoff hg hdep K hK;have h10 := off_at hoff 10 (v := .slice (some ⟨xb, xo, none⟩) G.length gc) (by kernel_rfl) rfl;rw [if_pos (by rfl)];go_simp;exact hK.out _ _ hg rfl (fun _ _ h => h)
          case ae9 =>
           intro a w' hoff hg hdep K hK;have h11 := off_at hoff 11 (v := .int .i64 (i : Int)) (by kernel_rfl) rfl;rw [if_pos (by rfl)];go_simp;exact hK.out _ _ hg rfl (fun _ _ h => h)
          case ae10 =>
           intro a w' hoff hg hdep K hK;obtain ⟨_, e8, rfl⟩ := hdep 8 _ 62 (by kernel_rfl) rfl rfl;obtain ⟨_, e9, rfl⟩ := hdep 9 _ 63 (by kernel_rfl) rfl rfl;rw [if_pos (by rfl)];go_simp;exact hK.out _ _ hg rfl (fun _ _ h => h)
          case ae11 =>
           intro a w' hoff hg hdep K hK;obtain ⟨_, e10, rfl⟩ := hdep 10 _ 64 (by kernel_rfl) rfl rfl;rw [if_pos (by rfl)];go_simp;exact hK.out _ _ hg rfl (fun _ _ h => h)
          case ae12 =>
           intro a w' hoff hg hdep K hK;obtain ⟨_, e11, rfl⟩ := hdep 11 _ 65 (by kernel_rfl) rfl rfl;rw [if_pos (by rfl)];have q1 := (hg.cell (p := ⟨xb, xo + i * 3 + 1, none⟩) (cell_lt x1)).trans x1;go_simp;exact hK.out _ _ hg rfl (fun _ _ h => h)
          case ae13 =>
           intro a w' hoff hg hdep K hK;have h7 := off_at hoff 7 (v := .int .i64 (ka : Int)) (by kernel_rfl) rfl;rw [if_pos (by rfl)];go_simp;exact hK.out _ _ hg rfl (fun _ _ h => h)
          case ae14 =>
           intro a w' hoff hg hdep K hK;obtain ⟨_, e12, rfl⟩ := hdep 12 _ 66 (by kernel_rfl) rfl rfl;obtain ⟨_, e13, rfl⟩ := hdep 13 _ 67 (by kernel_rfl) rfl rfl;rw [if_pos (by rfl)];have b1 : (ka : Int) < (x.args.length : Int) := by have := HNX.out; omega
           have b2 : (0 : Int) ≤ (ka : Int) := Int.natCast_nonneg _;go_simp;exact hK.out _ _ hg rfl (fun _ _ h => h)
          case ae15 =>
           intro a w' hoff hg hdep K hK;obtain ⟨_, e14, rfl⟩ := hdep 14 _ 68 (by kernel_rfl) rfl rfl;rw [if_pos (by rfl)];have q0 := (hg.cell (p := ⟨rb, ro + ka * 4, none⟩) (cell_lt r0)).trans r0;have q1 := (hg.cell (p := ⟨rb, ro + ka * 4 + 1, none⟩) (cell_lt r1)).trans r1;have q2 := (hg.cell (p := ⟨rb, ro + ka * 4 + 2, none⟩) (cell_lt r2)).trans r2;have q3 := (hg.cell (p := ⟨rb, ro + ka * 4 + 3, none⟩) (cell_lt r3)).trans r3;go_simp;exact hK.out _ _ hg rfl (fun _ _ h => h)
          case ae16 =>
           intro a w' hoff hg hdep K hK;obtain ⟨_, e7, rfl⟩ := hdep 7 _ 61 (by kernel_rfl) rfl rfl;obtain ⟨_, e15, rfl⟩ := hdep 15 _ 69 (by kernel_rfl) rfl rfl;rw [if_pos (by rfl)];go_simp;refine (cmp_any (argR ka y) (argR ka x) w'.heap.size w' _ _ _ _ _ _ _ _ (Nat.le_refl _) (RepG.on (fun k hk => Nat.lt_of_lt_of_le (Nat.lt_of_lt_of_le hk HSZ.out) hg.size) (fun k hk => hg.block k (Nat.lt_of_lt_of_le hk HSZ.out)) _ HU.out) (RepG.on (fun k hk => Nat.lt_of_lt_of_le (Nat.lt_of_lt_of_le hk HSZ.out) hg.size) (fun k hk => hg.block k (Nat.lt_of_lt_of_le hk HSZ.out)) _ HT.out)).mono ?_;rintro e w6 ⟨rfl, hb⟩;rw [HC.out];exact hK.out _ _ (Below.step hg hb) rfl (fSt trivial)
          case ae17 =>
           intro a w' hoff hg hdep K hK;obtain ⟨_, e16, rfl⟩ := hdep 16 _ 70 (by kernel_rfl) rfl rfl;rw [if_pos (by rfl)];go_simp;exact hK.out _ _ hg rfl (fun _ _ h => h)
          case aefin =>
           intro a w' hoff hg hf;obtain ⟨_, e0, rfl⟩ := hf 0 _ 54 rfl rfl;obtain ⟨_, e1, rfl⟩ := hf 1 _ 55 rfl rfl;obtain ⟨_, e2, rfl⟩ := hf 2 _ 56 rfl rfl;obtain ⟨_, e3, rfl⟩ := hf 3 _ 57 rfl rfl;obtain ⟨_, e4, rfl⟩ := hf 4 _ 58 rfl rfl;obtain ⟨_, e5, rfl⟩ := hf 5 _ 59 rfl rfl;obtain ⟨_, e6, rfl⟩ := hf 6 _ 60 rfl rfl;obtain ⟨_, e7, rfl⟩ := hf 7 _ 61 rfl rfl;obtain ⟨_, e8, rfl⟩ := hf 8 _ 62 rfl rfl;obtain ⟨_, e9, rfl⟩ := hf 9 _ 63 rfl rfl;obtain ⟨_, e10, rfl⟩ := hf 10 _ 64 rfl rfl;obtain ⟨_, e11, rfl⟩ := hf 11 _ 65 rfl rfl;obtain ⟨_, e12, rfl⟩ := hf 12 _ 66 rfl rfl;obtain ⟨_, e13, rfl⟩ := hf 13 _ 67 rfl rfl;obtain ⟨_, e14, rfl⟩ := hf 14 _ 68 rfl rfl;obtain ⟨_, e15, rfl⟩ := hf 15 _ 69 rfl rfl;obtain ⟨_, e16, rfl⟩ := hf 16 _ 70 rfl rfl;obtain ⟨_, e17, rfl⟩ := hf 17 _ 14 rfl rfl;rw [hoff.sets [(54, .slice (some ⟨yb, yo, none⟩) L.length lc), (55, .int .i64 (q : Int)), (56, .pointer (some ⟨yb, yo + q * 3, none⟩)), (57, .pointer (some ⟨yb, yo + q * 3 + 1, none⟩)), (58, .slice (some ⟨ub, uo, none⟩) y.args.length yc), (59, .int .i64 (ka : Int)), (60, .pointer (some ⟨ub, uo + ka * 4, none⟩)), (61, .agg #[.int .i64 (argR ka y).kind, .int .i64 (argR ka y).num, .string (argR ka y).text, .slice ua (argR ka y).list.length uac]), (62, .slice (some ⟨xb, xo, none⟩) G.length gc), (63, .int .i64 (i : Int)), (64, .pointer (some ⟨xb, xo + i * 3, none⟩)), (65, .pointer (some ⟨xb, xo + i * 3 + 1, none⟩)), (66, .slice (some ⟨rb, ro, none⟩) x.args.length xc), (67, .int .i64 (ka : Int)), (68, .pointer (some ⟨rb, ro + ka * 4, none⟩)), (69, .agg #[.int .i64 (argR ka x).kind, .int .i64 (argR ka x).num, .string (argR ka x).text, .slice ra (argR ka x).list.length rac]), (70, .int .i64 1), (14, .int .i64 1)] (by kernel_rfl) (by intro p hp; simp only [List.mem_cons, List.not_mem_nil, or_false] at hp; rcases hp with rfl | rfl | rfl | rfl | rfl | rfl | rfl | rfl | rfl | rfl | rfl | rfl | rfl | rfl | rfl | rfl | rfl | rfl <;> assumption)];clear hoff hf e0 e1 e2 e3 e4 e5 e6 e7 e8 e9 e10 e11 e12 e13 e14 e15 e16 e17;simp only [List.foldl_cons, List.foldl_nil, List.setIfInBounds_toArray, List.set_cons_zero, List.set_cons_succ]
           have HBE := Lib.hid (Below.step HBN.out hg);clear hg HU HT u0 u1 u2 u3 r0 r1 r2 r3 x0 x1 y0 y1 HBN;have HNX : Hid (thereB ka x (L.take (q + 1)) = thereB ka x (L.take q)) := by show _ = _; rw [HTK.out]; exact thereB_miss fun h => by have h1 := h.2; rw [HC.out] at h1; cases h1
           obtain ⟨b, hb0⟩ : ∃ b, thereB ka x (L.take q) = b := ⟨_, rfl⟩;rw [hb0] at HNX ⊢;clear hb0
           cases b
           ·go_wp2_with fail
            go_roundw
            case rel => exact ⟨q + 1, HLQ.out, by go_num, by rw [HNX.out], HBE.out⟩
            case measure => have := HLQ.out; simp [intOf]; omega
           ·go_wp2_with fail
            go_roundw
            case rel => exact ⟨q + 1, HLQ.out, by go_num, by rw [HNX.out], HBE.out⟩
            case measure => have := HLQ.out; simp [intOf]; omega
      ·have hql : q = L.length := by omega
       have HT : Hid (thereB ka (G[i]'HIG.out) (L.take q) = true) := by show _ = _; rw [hql, List.take_length]; exact HENI.out.2.1
       rw [HT.out];have k1 : decide ((q : Int) < (L.length : Int)) = false := decide_eq_false (by omega);have k2 : decide (q < L.length) = false := decide_eq_false (by omega);have hig2 : (i : Int) < (G.length : Int) := by have := HIG.out; omega
       have HLT := HIG;clear hq hlq hql HT;go_wp2_with fail
       go_roundw
       case rel => exact ⟨i + 1, HLT.out, by go_num, hbq.out⟩
       case measure => have := HLT.out; simp [intOf]; omega
    ·have hie : i = G.length := by omega
     have k1 : decide ((i : Int) < (G.length : Int)) = false := decide_eq_false (by omega);have k2 : decide (i < G.length) = false := decide_eq_false (by omega);clear hi hlt hie;have HBF := Lib.hid (Below.step HBO.out hbj.out);clear hbj;go_wp2_with fail
     go_roundw
     case rel => exact ⟨1, .inr (.inl rfl), rfl, HBF.out⟩
     case measure => simp [intOf]
  ·skip
   go_wp2_with fail
   refine (group_any sMax (ka : Int) L (fun k => k < wo.heap.size) wo _ (by have := HK.out; unfold I64; omega) (fun _ h => h) HLW.out).mono ?_;rintro e w4 ⟨hb, G, v, rfl, -, hgi, hv⟩;have hgi := hgi agg_max (by have := HK.out; omega);rw [Int.toNat_natCast] at hgi;have HEN := Lib.hid (ends_max HR.out hgi);have hros : RosP G w4 v := RosP.of hv (fun k hk => hk.2);have HBO := Lib.hid (Below.step hbi.out hb);have HL : Hid (RosP L w4 (.slice la L.length lc)) := HLW.out.on hb;have HBW := Lib.hid hb;obtain ⟨ga, gc, rfl⟩ := SlG.form hros;have HG := Lib.hid hros;have hG63 : G.length * 48 ≤ 140737488355328 := SlG.bytes hros;clear hb hgi hv hros hbi HLW;go_wp2_with fail
   go_loopw [11] (fun iv wr => ∃ i : Nat, i ≤ G.length ∧ iv = .int .i64 (i : Int) ∧ Hid (Below w4.heap.size w4 wr)) (fun iv _ => G.length - (intOf iv).toNat)
   case atStart => exact ⟨0, Nat.zero_le _, rfl, Below.refl _ _⟩
   case round =>
    obtain ⟨i, hi, rfl, hbj⟩ := hrel;generalize wr = wp at *
    by_cases hlt : i < G.length
    ·have HIG := Lib.hid hlt
     have HENI := Lib.hid (HEN.out G[i] (List.getElem_mem HIG.out));have HBP := hbj;have k1 : decide ((i : Int) < (G.length : Int)) = true := decide_eq_true (by omega);have k2 : decide (i < G.length) = true := decide_eq_true (by omega);have k3 : (0 : Int) ≤ (i : Int) := Int.natCast_nonneg _;have k4 : (i : Int) < (G.length : Int) := by omega
     clear hlt hi hbj;go_wp2_with fail
     clear k1 k2 k3 k4;go_loopw [12, 13] (fun bv jv wr => ∃ q : Nat, q ≤ L.length ∧ jv = .int .i64 (q : Int) ∧ bv = .bool (thereB ka (G[i]'HIG.out) (L.take q)) ∧ Hid (Below w4.heap.size w4 wr)) (fun _ jv _ => L.length - (intOf jv).toNat)
     case atStart => exact ⟨0, Nat.zero_le _, rfl, by rw [List.take_zero, thereB_nil], HBP.out⟩
     case round =>
      obtain ⟨q, hq, rfl, rfl, hbq⟩ := hrel
      by_cases hlq : q < L.length
      ·have HLY := Lib.hid (List.getElem_mem hlq)
       obtain ⟨xb, xo, xf, xc, hex, hSx, x0, x1, x2, hx, -⟩ := RosP.at HG.out hbq.out i HIG.out;subst hex;obtain ⟨yb, yo, yf, yc, hey, hSy, y0, y1, y2, hy, -⟩ := RosP.at HL.out hbq.out q hlq;subst hey;have HX := Lib.hid hx; have HY := Lib.hid hy; have HSZ : Hid (w4.heap.size ≤ wr.heap.size) := hbq.out.size
       have HTK : Hid (L.take (q + 1) = L.take q ++ [L[q]]) := List.take_succ_eq_append_getElem hlq;obtain ⟨v, hv⟩ : ∃ v, alikeB (ka : Int) (G[i]'HIG.out) L[q] = v := ⟨_, rfl⟩;have HV := Lib.hid hv;have HNEA : Hid (AlikeP (ka : Int) (G[i]'HIG.out) L[q] → cmpV (argR ka L[q]) (argR ka (G[i]'HIG.out)) * 1 ≤ 0) := HENI.out.2.2 L[q] (List.getElem_mem hlq);have HXL : Hid (ka < (G[i]'HIG.out).args.length) := HENI.out.1;have HLQ := Lib.hid hlq;have k1 : decide ((q : Int) < (L.length : Int)) = true := decide_eq_true (by omega);have k2 : decide (q < L.length) = true := decide_eq_true (by omega);have k3 : (0 : Int) ≤ (q : Int) := Int.natCast_nonneg _;have k4 : (q : Int) < (L.length : Int) := by omega
       have k5 : (0 : Int) ≤ (i : Int) := Int.natCast_nonneg _;have k6 : (i : Int) < (G.length : Int) := by have := HIG.out; omega
       clear hx hy hSx hSy hq hv;generalize hyy : L[q] = y at *;generalize hxx : G[i]'HIG.out = x at *;clear hxx hyy hlq;go_upto_region 18 with fail
       cases v
       ·have HNA : Hid (¬ AlikeP (ka : Int) x y) := fun h => by have := HV.out; rw [alikeB_yes h] at this; cases this
        refine wp_region_factsG (by rfl) 83 (by rfl) (by kernel_rfl) (FA [.e (.slice (some ⟨xb, xo, none⟩) G.length gc), .e (.int .i64 (i : Int)), .e (.pointer (some ⟨xb, xo + i * 3, none⟩)), .e (.agg #[.string x.name, .slice xf x.args.length xc, .int .i64 x.stamp]), .e (.slice (some ⟨yb, yo, none⟩) L.length lc), .e (.int .i64 (q : Int)), .e (.pointer (some ⟨yb, yo + q * 3, none⟩)), .e (.agg #[.string y.name, .slice yf y.args.length yc, .int .i64 y.stamp]), .e (.int .i64 (ka : Int)), .e (.bool false), .e (.bool true)]) (fun w' => Below wr.heap.size wr w') (Below.drew (Below.refl _ _)) ⟨?ba0, ?ba1, ?ba2, ?ba3, ?ba4, ?ba5, ?ba6, ?ba7, ?ba8, ?ba9, ?ba10, trivial⟩ ?bafin
        case ba0 =>
         intro a w' hoff hg hdep K hK;have h10 := off_at hoff 10 (v := .slice (some ⟨xb, xo, none⟩) G.length gc) (by kernel_rfl) rfl;rw [if_pos (by rfl)];go_simp;exact hK.out _ _ hg rfl (fun _ _ h => h)
        case ba1 =>
         intro a w' hoff hg hdep K hK;have h11 := off_at hoff 11 (v := .int .i64 (i : Int)) (by kernel_rfl) rfl;rw [if_pos (by rfl)];go_simp;exact hK.out _ _ hg rfl (fun _ _ h => h)
        case ba2 =>
         intro a w' hoff hg hdep K hK;obtain ⟨_, e0, rfl⟩ := hdep 0 _ 43 (by kernel_rfl) rfl rfl;obtain ⟨_, e1, rfl⟩ := hdep 1 _ 44 (by kernel_rfl) rfl rfl;rw [if_pos (by rfl)];go_simp;exact hK.out _ _ hg rfl (fun _ _ h => h)
        case ba3 =>
         intro a w' hoff hg hdep K hK;obtain ⟨_, e2, rfl⟩ := hdep 2 _ 45 (by kernel_rfl) rfl rfl;rw [if_pos (by rfl)];have q0 := (hg.cell (p := ⟨xb, xo + i * 3, none⟩) (cell_lt x0)).trans x0;have q1 := (hg.cell (p := ⟨xb, xo + i * 3 + 1, none⟩) (cell_lt x1)).trans x1;have q2 := (hg.cell (p := ⟨xb, xo + i * 3 + 2, none⟩) (cell_lt x2)).trans x2;go_simp;exact hK.out _ _ hg rfl (fun _ _ h => h)
        case ba4 =>
         intro a w' hoff hg hdep K hK;have h6 := off_at hoff 6 (v := .slice (some ⟨yb, yo, none⟩) L.length lc) (by kernel_rfl) rfl;rw [if_pos (by rfl)];go_simp;exact hK.out _ _ hg rfl (fun _ _ h => h)
        case ba5 =>
         intro a w' hoff hg hdep K hK;have h13 := off_at hoff 13 (v := .int .i64 (q : Int)) (by kernel_rfl) rfl;rw [if_pos (by rfl)];go_simp;exact hK.out _ _ hg rfl (fun _ _ h => h)
        case ba6 =>
         intro a w' hoff hg hdep K hK;obtain ⟨_, e4, rfl⟩ := hdep 4 _ 47 (by kernel_rfl) rfl rfl;obtain ⟨_, e5, rfl⟩ := hdep 5 _ 48 (by kernel_rfl) rfl rfl;rw [if_pos (by rfl)];go_simp;exact hK.out _ _ hg rfl (fun _ _ h => h)
        case ba7 =>
         intro a w' hoff hg hdep K hK;obtain ⟨_, e6, rfl⟩ := hdep 6 _ 49 (by kernel_rfl) rfl rfl;rw [if_pos (by rfl)];have q0 := (hg.cell (p := ⟨yb, yo + q * 3, none⟩) (cell_lt y0)).trans y0;have q1 := (hg.cell (p := ⟨yb, yo + q * 3 + 1, none⟩) (cell_lt y1)).trans y1;have q2 := (hg.cell (p := ⟨yb, yo + q * 3 + 2, none⟩) (cell_lt y2)).trans y2;go_simp;exact hK.out _ _ hg rfl (fun _ _ h => h)
        case ba8 =>
         intro a w' hoff hg hdep K hK;have h7 := off_at hoff 7 (v := .int .i64 (ka : Int)) (by kernel_rfl) rfl;rw [if_pos (by rfl)];go_simp;exact hK.out _ _ hg rfl (fun _ _ h => h)
        case ba9 =>
         intro a w' hoff hg hdep K hK;obtain ⟨_, e3, rfl⟩ := hdep 3 _ 46 (by kernel_rfl) rfl rfl;obtain ⟨_, e7, rfl⟩ := hdep 7 _ 50 (by kernel_rfl) rfl rfl;obtain ⟨_, e8, rfl⟩ := hdep 8 _ 51 (by kernel_rfl) rfl rfl;rw [if_pos (by rfl)];go_simp;refine (alike_any x y (ka : Int) (fun k => k < w4.heap.size) w' _ _ (fun k hk => Nat.lt_of_lt_of_le hk (Nat.le_trans HSZ.out hg.size)) (RepRo.on (fun _ h => h) (fun k hk => hg.block k (Nat.lt_of_lt_of_le hk HSZ.out)) HX.out) (RepRo.on (fun _ h => h) (fun k hk => hg.block k (Nat.lt_of_lt_of_le hk HSZ.out)) HY.out)).mono ?_;rintro e w6 ⟨rfl, hb⟩;rw [HV.out];exact hK.out _ _ (Below.step hg hb) rfl (fSt trivial)
        case ba10 =>
         intro a w' hoff hg hdep K hK;obtain ⟨_, e9, rfl⟩ := hdep 9 _ 52 (by kernel_rfl) rfl rfl;rw [if_pos (by rfl)];go_simp;exact hK.out _ _ hg rfl (fun _ _ h => h)
        case bafin =>
         intro a w' hoff hg hf;obtain ⟨_, e0, rfl⟩ := hf 0 _ 43 rfl rfl;obtain ⟨_, e1, rfl⟩ := hf 1 _ 44 rfl rfl;obtain ⟨_, e2, rfl⟩ := hf 2 _ 45 rfl rfl;obtain ⟨_, e3, rfl⟩ := hf 3 _ 46 rfl rfl;obtain ⟨_, e4, rfl⟩ := hf 4 _ 47 rfl rfl;obtain ⟨_, e5, rfl⟩ := hf 5 _ 48 rfl rfl;obtain ⟨_, e6, rfl⟩ := hf 6 _ 49 rfl rfl;obtain ⟨_, e7, rfl⟩ := hf 7 _ 50 rfl rfl;obtain ⟨_, e8, rfl⟩ := hf 8 _ 51 rfl rfl;obtain ⟨_, e9, rfl⟩ := hf 9 _ 52 rfl rfl;obtain ⟨_, e10, rfl⟩ := hf 10 _ 53 rfl rfl;rw [hoff.sets [(43, .slice (some ⟨xb, xo, none⟩) G.length gc), (44, .int .i64 (i : Int)), (45, .pointer (some ⟨xb, xo + i * 3, none⟩)), (46, .agg #[.string x.name, .slice xf x.args.length xc, .int .i64 x.stamp]), (47, .slice (some ⟨yb, yo, none⟩) L.length lc), (48, .int .i64 (q : Int)), (49, .pointer (some ⟨yb, yo + q * 3, none⟩)), (50, .agg #[.string y.name, .slice yf y.args.length yc, .int .i64 y.stamp]), (51, .int .i64 (ka : Int)), (52, .bool false), (53, .bool true)] (by kernel_rfl) (by intro p hp; simp only [List.mem_cons, List.not_mem_nil, or_false] at hp; rcases hp with rfl | rfl | rfl | rfl | rfl | rfl | rfl | rfl | rfl | rfl | rfl <;> assumption)];clear hoff hf e0 e1 e2 e3 e4 e5 e6 e7 e8 e9 e10;simp only [List.foldl_cons, List.foldl_nil, List.setIfInBounds_toArray, List.set_cons_zero, List.set_cons_succ]
         have HBE := Lib.hid (Below.step hbq.out hg);clear hg hbq x0 x1 x2 y0 y1 y2;go_wp2_with fail
         go_roundw
         case rel => exact ⟨q + 1, HLQ.out, by go_num, by rw [HTK.out, thereB_miss (fun h => HNA.out h.1)], HBE.out⟩
         case measure => have := HLQ.out; simp [intOf]; omega
       ·have HNA : Hid (AlikeP (ka : Int) x y) := Classical.byContradiction fun h => by have := HV.out; rw [alikeB_no h] at this; cases this
        have HNE := Lib.hid (HNEA.out HNA.out);clear HNEA;refine wp_region_factsG (by rfl) 83 (by rfl) (by kernel_rfl) (FA [.e (.slice (some ⟨xb, xo, none⟩) G.length gc), .e (.int .i64 (i : Int)), .e (.pointer (some ⟨xb, xo + i * 3, none⟩)), .e (.agg #[.string x.name, .slice xf x.args.length xc, .int .i64 x.stamp]), .e (.slice (some ⟨yb, yo, none⟩) L.length lc), .e (.int .i64 (q : Int)), .e (.pointer (some ⟨yb, yo + q * 3, none⟩)), .e (.agg #[.string y.name, .slice yf y.args.length yc, .int .i64 y.stamp]), .e (.int .i64 (ka : Int)), .e (.bool true), .e (.bool false)]) (fun w' => Below wr.heap.size wr w') (Below.drew (Below.refl _ _)) ⟨?bb0, ?bb1, ?bb2, ?bb3, ?bb4, ?bb5, ?bb6, ?bb7, ?bb8, ?bb9, ?bb10, trivial⟩ ?bbfin
        case bb0 =>
         intro a w' hoff hg hdep K hK;have h10 := off_at hoff 10 (v := .slice (some ⟨xb, xo, none⟩) G.length gc) (by kernel_rfl) rfl;rw [if_pos (by rfl)];go_simp;exact hK.out _ _ hg rfl (fun _ _ h => h)
        case bb1 =>
         intro a w' hoff hg hdep K hK;have h11 := off_at hoff 11 (v := .int .i64 (i : Int)) (by kernel_rfl) rfl;rw [if_pos (by rfl)];go_simp;exact hK.out _ _ hg rfl (fun _ _ h => h)
        case bb2 =>
         intro a w' hoff hg hdep K hK;obtain ⟨_, e0, rfl⟩ := hdep 0 _ 43 (by kernel_rfl) rfl rfl;obtain ⟨_, e1, rfl⟩ := hdep 1 _ 44 (by kernel_rfl) rfl rfl;rw [if_pos (by rfl)];go_simp;exact hK.out _ _ hg rfl (fun _ _ h => h)
        case bb3 =>
         intro a w' hoff hg hdep K hK;obtain ⟨_, e2, rfl⟩ := hdep 2 _ 45 (by kernel_rfl) rfl rfl;rw [if_pos (by rfl)];have q0 := (hg.cell (p := ⟨xb, xo + i * 3, none⟩) (cell_lt x0)).trans x0;have q1 := (hg.cell (p := ⟨xb, xo + i * 3 + 1, none⟩) (cell_lt x1)).trans x1;have q2 := (hg.cell (p := ⟨xb, xo + i * 3 + 2, none⟩) (cell_lt x2)).trans x2;go_simp;exact hK.out _ _ hg rfl (fun _ _ h => h)
        case bb4 =>
         intro a w' hoff hg hdep K hK;have h6 := off_at hoff 6 (v := .slice (some ⟨yb, yo, none⟩) L.length lc) (by kernel_rfl) rfl;rw [if_pos (by rfl)];go_simp;exact hK.out _ _ hg rfl (fun _ _ h => h)
        case bb5 =>
         intro a w' hoff hg hdep K hK;have h13 := off_at hoff 13 (v := .int .i64 (q : Int)) (by kernel_rfl) rfl;rw [if_pos (by rfl)];go_simp;exact hK.out _ _ hg rfl (fun _ _ h => h)
        case bb6 =>
         intro a w' hoff hg hdep K hK;obtain ⟨_, e4, rfl⟩ := hdep 4 _ 47 (by kernel_rfl) rfl rfl;obtain ⟨_, e5, rfl⟩ := hdep 5 _ 48 (by kernel_rfl) rfl rfl;rw [if_pos (by rfl)];go_simp;exact hK.out _ _ hg rfl (fun _ _ h => h)
        case bb7 =>
         intro a w' hoff hg hdep K hK;obtain ⟨_, e6, rfl⟩ := hdep 6 _ 49 (by kernel_rfl) rfl rfl;rw [if_pos (by rfl)];have q0 := (hg.cell (p := ⟨yb, yo + q * 3, none⟩) (cell_lt y0)).trans y0;have q1 := (hg.cell (p := ⟨yb, yo + q * 3 + 1, none⟩) (cell_lt y1)).trans y1;have q2 := (hg.cell (p := ⟨yb, yo + q * 3 + 2, none⟩) (cell_lt y2)).trans y2;go_simp;exact hK.out _ _ hg rfl (fun _ _ h => h)
        case bb8 =>
         intro a w' hoff hg hdep K hK;have h7 := off_at hoff 7 (v := .int .i64 (ka : Int)) (by kernel_rfl) rfl;rw [if_pos (by rfl)];go_simp;exact hK.out _ _ hg rfl (fun _ _ h => h)
        case bb9 =>
         intro a w' hoff hg hdep K hK;obtain ⟨_, e3, rfl⟩ := hdep 3 _ 46 (by kernel_rfl) rfl rfl;obtain ⟨_, e7, rfl⟩ := hdep 7 _ 50 (by kernel_rfl) rfl rfl;obtain ⟨_, e8, rfl⟩ := hdep 8 _ 51 (by kernel_rfl) rfl rfl;rw [if_pos (by rfl)];go_simp;refine (alike_any x y (ka : Int) (fun k => k < w4.heap.size) w' _ _ (fun k hk => Nat.lt_of_lt_of_le hk (Nat.le_trans HSZ.out hg.size)) (RepRo.on (fun _ h => h) (fun k hk => hg.block k (Nat.lt_of_lt_of_le hk HSZ.out)) HX.out) (RepRo.on (fun _ h => h) (fun k hk => hg.block k (Nat.lt_of_lt_of_le hk HSZ.out)) HY.out)).mono ?_;rintro e w6 ⟨rfl, hb⟩;rw [HV.out];exact hK.out _ _ (Below.step hg hb) rfl (fSt trivial)
        case bb10 =>
         intro a w' hoff hg hdep K hK;obtain ⟨_, e9, rfl⟩ := hdep 9 _ 52 (by kernel_rfl) rfl rfl;rw [if_pos (by rfl)];go_simp;exact hK.out _ _ hg rfl (fun _ _ h => h)
        case bbfin =>
         intro a w' hoff hg hf;obtain ⟨_, e0, rfl⟩ := hf 0 _ 43 rfl rfl;obtain ⟨_, e1, rfl⟩ := hf 1 _ 44 rfl rfl;obtain ⟨_, e2, rfl⟩ := hf 2 _ 45 rfl rfl;obtain ⟨_, e3, rfl⟩ := hf 3 _ 46 rfl rfl;obtain ⟨_, e4, rfl⟩ := hf 4 _ 47 rfl rfl;obtain ⟨_, e5, rfl⟩ := hf 5 _ 48 rfl rfl;obtain ⟨_, e6, rfl⟩ := hf 6 _ 49 rfl rfl;obtain ⟨_, e7, rfl⟩ := hf 7 _ 50 rfl rfl;obtain ⟨_, e8, rfl⟩ := hf 8 _ 51 rfl rfl;obtain ⟨_, e9, rfl⟩ := hf 9 _ 52 rfl rfl;obtain ⟨_, e10, rfl⟩ := hf 10 _ 53 rfl rfl;rw [hoff.sets [(43, .slice (some ⟨xb, xo, none⟩) G.length gc), (44, .int .i64 (i : Int)), (45, .pointer (some ⟨xb, xo + i * 3, none⟩)), (46, .agg #[.string x.name, .slice xf x.args.length xc, .int .i64 x.stamp]), (47, .slice (some ⟨yb, yo, none⟩) L.length lc), (48, .int .i64 (q : Int)), (49, .pointer (some ⟨yb, yo + q * 3, none⟩)), (50, .agg #[.string y.name, .slice yf y.args.length yc, .int .i64 y.stamp]), (51, .int .i64 (ka : Int)), (52, .bool true), (53, .bool false)] (by kernel_rfl) (by intro p hp; simp only [List.mem_cons, List.not_mem_nil, or_false] at hp; rcases hp with rfl | rfl | rfl | rfl | rfl | rfl | rfl | rfl | rfl | rfl | rfl <;> assumption)];clear hoff hf e0 e1 e2 e3 e4 e5 e6 e7 e8 e9 e10;simp only [List.foldl_cons, List.foldl_nil, List.setIfInBounds_toArray, List.set_cons_zero, List.set_cons_succ]
         have HBN := Lib.hid (Below.step hbq.out hg);have HSN : Hid (w4.heap.size ≤ w'.heap.size) := Nat.le_trans HSZ.out hg.size;replace x0 := (hg.cell (cell_lt x0)).trans x0;replace x1 := (hg.cell (cell_lt x1)).trans x1;replace y0 := (hg.cell (cell_lt y0)).trans y0;replace y1 := (hg.cell (cell_lt y1)).trans y1;replace HX := Lib.hid (RepRo.on (fun _ h => h) (fun k hk => hg.block k (Nat.lt_of_lt_of_le hk HSZ.out)) HX.out);replace HY := Lib.hid (RepRo.on (fun _ h => h) (fun k hk => hg.block k (Nat.lt_of_lt_of_le hk HSZ.out)) HY.out);clear hg hbq x2 y2 HSZ;have HSZ := HSN;clear HSN;generalize w' = wn at *;have HNX : Hid (ka < x.args.length) := HXL.out;have HNY : Hid (ka < y.args.length) := by show _ < _; rw [← HNA.out.2.1]; exact HXL.out
         obtain ⟨ub, uo, ua, uac, hue, u0, u1, u2, u3, hu⟩ := arg_of HY.out HNY.out;obtain ⟨rb, ro, ra, rac, hte, r0, r1, r2, r3, ht⟩ := arg_of HX.out HNX.out;subst hue hte;have HU := Lib.hid hu; have HT := Lib.hid ht
         clear hu ht;go_upto_region 19 with fail
         rcases cmp_11 (argR ka y) (argR ka x) with hc | hc | hc
         ·have HC := Lib.hid hc
          clear hc;refine wp_region_factsG (by rfl) 83 (by rfl) (by kernel_rfl) (FA [.e (.slice (some ⟨yb, yo, none⟩) L.length lc), .e (.int .i64 (q : Int)), .e (.pointer (some ⟨yb, yo + q * 3, none⟩)), .e (.pointer (some ⟨yb, yo + q * 3 + 1, none⟩)), .e (.slice (some ⟨ub, uo, none⟩) y.args.length yc), .e (.int .i64 (ka : Int)), .e (.pointer (some ⟨ub, uo + ka * 4, none⟩)), .e (.agg #[.int .i64 (argR ka y).kind, .int .i64 (argR ka y).num, .string (argR ka y).text, .slice ua (argR ka y).list.length uac]), .e (.slice (some ⟨xb, xo, none⟩) G.length gc), .e (.int .i64 (i : Int)), .e (.pointer (some ⟨xb, xo + i * 3, none⟩)), .e (.pointer (some ⟨xb, xo + i * 3 + 1, none⟩)), .e (.slice (some ⟨rb, ro, none⟩) x.args.length xc), .e (.int .i64 (ka : Int)), .e (.pointer (some ⟨rb, ro + ka * 4, none⟩)), .e (.agg #[.int .i64 (argR ka x).kind, .int .i64 (argR ka x).num, .string (argR ka x).text, .slice ra (argR ka x).list.length rac]), .e (.int .i64 (-1)), .e (.int .i64 (-1))]) (fun w' => Below wn.heap.size wn w') (Below.drew (Below.refl _ _)) ⟨?bc0, ?bc1, ?bc2, ?bc3, ?bc4, ?bc5, ?bc6, ?bc7, ?bc8, ?bc9, ?bc10, ?bc11, ?bc12, ?bc13, ?bc14, ?bc15, ?bc16, ?bc17, trivial⟩ ?bcfin
          case bc0 =>
           intro a w' hoff hg hdep K hK;have h6 := off_at hoff 6 (v := .slice (some ⟨yb, yo, none⟩) L.length lc) (by kernel_rfl) rfl;rw [if_pos (by rfl)];go_simp;exact hK.out _ _ hg rfl (fun _ _ h => h)
          case bc1 =>
           intro a w' hoff hg hdep K hK;have h13 := off_at hoff 13 (v := .int .i64 (q : Int)) (by kernel_rfl) rfl;rw [if_pos (by rfl)];go_simp;exact hK.out _ _ hg rfl (fun _ _ h => h)
          case bc2 =>
           intro a w' hoff hg hdep K hK;obtain ⟨_, e0, rfl⟩ := hdep 0 _ 54 (by kernel_rfl) rfl rfl;obtain ⟨_, e1, rfl⟩ := hdep 1 _ 55 (by kernel_rfl) rfl rfl;rw [if_pos (by rfl)];go_simp;exact hK.out _ _ hg rfl (fun _ _ h => h)
          case bc3 =>
           intro a w' hoff hg hdep K hK;obtain ⟨_, e2, rfl⟩ := hdep 2 _ 56 (by kernel_rfl) rfl rfl;rw [if_pos (by rfl)];go_simp;exact hK.out _ _ hg rfl (fun _ _ h => h)
          case bc4 =>
           intro a w' hoff hg hdep K hK;obtain ⟨_, e3, rfl⟩ := hdep 3 _ 57 (by kernel_rfl) rfl rfl;rw [if_pos (by rfl)];have q1 := (hg.cell (p := ⟨yb, yo + q * 3 + 1, none⟩) (cell_lt y1)).trans y1;go_simp;exact hK.out _ _ hg rfl (fun _ _ h => h)
          case bc5 =>
           intro a w' hoff hg hdep K hK;have h7 := off_at hoff 7 (v := .int .i64 (ka : Int)) (by kernel_rfl) rfl;rw [if_pos (by rfl)];go_simp;exact hK.out _ _ hg rfl (fun _ _ h => h)
          case bc6 =>
           intro a w' hoff hg hdep K hK;obtain ⟨_, e4, rfl⟩ := hdep 4 _ 58 (by kernel_rfl) rfl rfl;obtain ⟨_, e5, rfl⟩ := hdep 5 _ 59 (by kernel_rfl) rfl rfl;rw [if_pos (by rfl)];have b1 : (ka : Int) < (y.args.length : Int) := by have := HNY.out; omega
           have b2 : (0 : Int) ≤ (ka : Int) := Int.natCast_nonneg _;go_simp;exact hK.out _ _ hg rfl (fun _ _ h => h)
          case bc7 =>
           intro a w' hoff hg hdep K hK;obtain ⟨_, e6, rfl⟩ := hdep 6 _ 60 (by kernel_rfl) rfl rfl;rw [if_pos (by rfl)];have q0 := (hg.cell (p := ⟨ub, uo + ka * 4, none⟩) (cell_lt u0)).trans u0;have q1 := (hg.cell (p := ⟨ub, uo + ka * 4 + 1, none⟩) (cell_lt u1)).trans u1;have q2 := (hg.cell (p := ⟨ub, uo + ka * 4 + 2, none⟩) (cell_lt u2)).trans u2;have q3 := (hg.cell (p := ⟨ub, uo + ka * 4 + 3, none⟩) (cell_lt u3)).trans u3;go_simp;exact hK.out _ _ hg rfl (fun _ _ h => h)
          case bc8 =>
           intro a w' hoff hg hdep K hK;have h10 := off_at hoff 10 (v := .slice (some ⟨xb, xo, none⟩) G.length gc) (by kernel_rfl) rfl;rw [if_pos (by rfl)];go_simp;exact hK.out _ _ hg rfl (fun _ _ h => h)
          case bc9 =>
           intro a w' hoff hg hdep K hK;have h11 := off_at hoff 11 (v := .int .i64 (i : Int)) (by kernel_rfl) rfl;rw [if_pos (by rfl)];go_simp;exact hK.out _ _ hg rfl (fun _ _ h => h)
          case bc10 =>
           intro a w' hoff hg hdep K hK;obtain ⟨_, e8, rfl⟩ := hdep 8 _ 62 (by kernel_rfl) rfl rfl;obtain ⟨_, e9, rfl⟩ := hdep 9 _ 63 (by kernel_rfl) rfl rfl;rw [if_pos (by rfl)];go_simp;exact hK.out _ _ hg rfl (fun _ _ h => h)
          case bc11 =>
           intro a w' hoff hg hdep K hK;obtain ⟨_, e10, rfl⟩ := hdep 10 _ 64 (by kernel_rfl) rfl rfl;rw [if_pos (by rfl)];go_simp;exact hK.out _ _ hg rfl (fun _ _ h => h)
          case bc12 =>
           intro a w' hoff hg hdep K hK;obtain ⟨_, e11, rfl⟩ := hdep 11 _ 65 (by kernel_rfl) rfl rfl;rw [if_pos (by rfl)];have q1 := (hg.cell (p := ⟨xb, xo + i * 3 + 1, none⟩) (cell_lt x1)).trans x1;go_simp;exact hK.out _ _ hg rfl (fun _ _ h => h)
          case bc13 =>
           intro a w' hoff hg hdep K hK;have h7 := off_at hoff 7 (v := .int .i64 (ka : Int)) (by kernel_rfl) rfl;rw [if_pos (by rfl)];go_simp;exact hK.out _ _ hg rfl (fun _ _ h => h)
          case bc14 =>
           intro a w' hoff hg hdep K hK;obtain ⟨_, e12, rfl⟩ := hdep 12 _ 66 (by kernel_rfl) rfl rfl;obtain ⟨_, e13, rfl⟩ := hdep 13 _ 67 (by kernel_rfl) rfl rfl;rw [if_pos (by rfl)];have b1 : (ka : Int) < (x.args.length : Int) := by have := HNX.out; omega
           have b2 : (0 : Int) ≤ (ka : Int) := Int.natCast_nonneg _;go_simp;exact hK.out _ _ hg rfl (fun _ _ h => h)
          case bc15 =>
           intro a w' hoff hg hdep K hK;obtain ⟨_, e14, rfl⟩ := hdep 14 _ 68 (by kernel_rfl) rfl rfl;rw [if_pos (by rfl)];have q0 := (hg.cell (p := ⟨rb, ro + ka * 4, none⟩) (cell_lt r0)).trans r0;have q1 := (hg.cell (p := ⟨rb, ro + ka * 4 + 1, none⟩) (cell_lt r1)).trans r1;have q2 := (hg.cell (p := ⟨rb, ro + ka * 4 + 2, none⟩) (cell_lt r2)).trans r2;have q3 := (hg.cell (p := ⟨rb, ro + ka * 4 + 3, none⟩) (cell_lt r3)).trans r3;go_simp;exact hK.out _ _ hg rfl (fun _ _ h => h)
          case bc16 =>
           intro a w' hoff hg hdep K hK;obtain ⟨_, e7, rfl⟩ := hdep 7 _ 61 (by kernel_rfl) rfl rfl;obtain ⟨_, e15, rfl⟩ := hdep 15 _ 69 (by kernel_rfl) rfl rfl;rw [if_pos (by rfl)];go_simp;refine (cmp_any (argR ka y) (argR ka x) w'.heap.size w' _ _ _ _ _ _ _ _ (Nat.le_refl _) (RepG.on (fun k hk => Nat.lt_of_lt_of_le (Nat.lt_of_lt_of_le hk HSZ.out) hg.size) (fun k hk => hg.block k (Nat.lt_of_lt_of_le hk HSZ.out)) _ HU.out) (RepG.on (fun k hk => Nat.lt_of_lt_of_le (Nat.lt_of_lt_of_le hk HSZ.out) hg.size) (fun k hk => hg.block k (Nat.lt_of_lt_of_le hk HSZ.out)) _ HT.out)).mono ?_;rintro e w6 ⟨rfl, hb⟩;rw [HC.out];exact hK.out _ _ (Below.step hg hb) rfl (fSt trivial)
          case bc17 =>
           intro a w' hoff hg hdep K hK;obtain ⟨_, e16, rfl⟩ := hdep 16 _ 70 (by kernel_rfl) rfl rfl;rw [if_pos (by rfl)];go_simp;exact hK.out _ _ hg rfl (fun _ _ h => h)
          case bcfin =>
           intro a w' hoff hg hf;obtain ⟨_, e0, rfl⟩ := hf 0 _ 54 rfl rfl;obtain ⟨_, e1, rfl⟩ := hf 1 _ 55 rfl rfl;obtain ⟨_, e2, rfl⟩ := hf 2 _ 56 rfl rfl;obtain ⟨_, e3, rfl⟩ := hf 3 _ 57 rfl rfl;obtain ⟨_, e4, rfl⟩ := hf 4 _ 58 rfl rfl;obtain ⟨_, e5, rfl⟩ := hf 5 _ 59 rfl rfl;obtain ⟨_, e6, rfl⟩ := hf 6 _ 60 rfl rfl;obtain ⟨_, e7, rfl⟩ := hf 7 _ 61 rfl rfl;obtain ⟨_, e8, rfl⟩ := hf 8 _ 62 rfl rfl;obtain ⟨_, e9, rfl⟩ := hf 9 _ 63 rfl rfl;obtain ⟨_, e10, rfl⟩ := hf 10 _ 64 rfl rfl;obtain ⟨_, e11, rfl⟩ := hf 11 _ 65 rfl rfl;obtain ⟨_, e12, rfl⟩ := hf 12 _ 66 rfl rfl;obtain ⟨_, e13, rfl⟩ := hf 13 _ 67 rfl rfl;obtain ⟨_, e14, rfl⟩ := hf 14 _ 68 rfl rfl;obtain ⟨_, e15, rfl⟩ := hf 15 _ 69 rfl rfl;obtain ⟨_, e16, rfl⟩ := hf 16 _ 70 rfl rfl;obtain ⟨_, e17, rfl⟩ := hf 17 _ 14 rfl rfl;rw [hoff.sets [(54, .slice (some ⟨yb, yo, none⟩) L.length lc), (55, .int .i64 (q : Int)), (56, .pointer (some ⟨yb, yo + q * 3, none⟩)), (57, .pointer (some ⟨yb, yo + q * 3 + 1, none⟩)), (58, .slice (some ⟨ub, uo, none⟩) y.args.length yc), (59, .int .i64 (ka : Int)), (60, .pointer (some ⟨ub, uo + ka * 4, none⟩)), (61, .agg #[.int .i64 (argR ka y).kind, .int .i64 (argR ka y).num, .string (argR ka y).text, .slice ua (argR ka y).list.length uac]), (62, .slice (some ⟨xb, xo, none⟩) G.length gc), (63, .int .i64 (i : Int)), (64, .pointer (some ⟨xb, xo + i * 3, none⟩)), (65, .pointer (some ⟨xb, xo + i * 3 + 1, none⟩)), (66, .slice (some ⟨rb, ro, none⟩) x.args.length xc), (67, .int .i64 (ka : Int)), (68, .pointer (some ⟨rb, ro + ka * 4, none⟩)), (69, .agg #[.int .i64 (argR ka x).kind, .int .i64 (argR ka x).num, .string (argR ka x).text, .slice ra (argR ka x).list.length rac]), (70, .int .i64 (-1)), (14, .int .i64 (-1))] (by kernel_rfl) (by intro p hp; simp only [List.mem_cons, List.not_mem_nil, or_false] at hp; rcases hp with rfl | rfl | rfl | rfl | rfl | rfl | rfl | rfl | rfl | rfl | rfl | rfl | rfl | rfl | rfl | rfl | rfl | rfl <;> assumption)];clear hoff hf e0 e1 e2 e3 e4 e5 e6 e7 e8 e9 e10 e11 e12 e13 e14 e15 e16 e17;simp only [List.foldl_cons, List.foldl_nil, List.setIfInBounds_toArray, List.set_cons_zero, List.set_cons_succ]
           have HBE := Lib.hid (Below.step HBN.out hg);clear hg HU HT u0 u1 u2 u3 r0 r1 r2 r3 x0 x1 y0 y1 HBN;have HNX : Hid (thereB ka x (L.take (q + 1)) = thereB ka x (L.take q)) := by show _ = _; rw [HTK.out]; exact thereB_miss fun h => by have h1 := h.2; rw [HC.out] at h1; cases h1
           obtain ⟨b, hb0⟩ : ∃ b, thereB ka x (L.take q) = b := ⟨_, rfl⟩;rw [hb0] at HNX ⊢;clear hb0
           cases b
           ·go_wp2_with fail
            go_roundw
            case rel => exact ⟨q + 1, HLQ.out, by go_num, by rw [HNX.out], HBE.out⟩
            case measure => have := HLQ.out; simp [intOf]; omega
           ·go_wp2_with fail
            go_roundw
            case rel => exact ⟨q + 1, HLQ.out, by go_num, by rw [HNX.out], HBE.out⟩
            case measure => have := HLQ.out; simp [intOf]; omega
         ·have HC := Lib.hid hc
          clear hc;refine wp_region_factsG (by rfl) 83 (by rfl) (by kernel_rfl) (FA [.e (.slice (some ⟨yb, yo, none⟩) L.length lc), .e (.int .i64 (q : Int)), .e (.pointer (some ⟨yb, yo + q * 3, none⟩)), .e (.pointer (some ⟨yb, yo + q * 3 + 1, none⟩)), .e (.slice (some ⟨ub, uo, none⟩) y.args.length yc), .e (.int .i64 (ka : Int)), .e (.pointer (some ⟨ub, uo + ka * 4, none⟩)), .e (.agg #[.int .i64 (argR ka y).kind, .int .i64 (argR ka y).num, .string (argR ka y).text, .slice ua (argR ka y).list.length uac]), .e (.slice (some ⟨xb, xo, none⟩) G.length gc), .e (.int .i64 (i : Int)), .e (.pointer (some ⟨xb, xo + i * 3, none⟩)), .e (.pointer (some ⟨xb, xo + i * 3 + 1, none⟩)), .e (.slice (some ⟨rb, ro, none⟩) x.args.length xc), .e (.int .i64 (ka : Int)), .e (.pointer (some ⟨rb, ro + ka * 4, none⟩)), .e (.agg #[.int .i64 (argR ka x).kind, .int .i64 (argR ka x).num, .string (argR ka x).text, .slice ra (argR ka x).list.length rac]), .e (.int .i64 0), .e (.int .i64 0)]) (fun w' => Below wn.heap.size wn w') (Below.drew (Below.refl _ _)) ⟨?bd0, ?bd1, ?bd2, ?bd3, ?bd4, ?bd5, ?bd6, ?bd7, ?bd8, ?bd9, ?bd10, ?bd11, ?bd12, ?bd13, ?bd14, ?bd15, ?bd16, ?bd17, trivial⟩ ?bdfin
          case bd0 =>
           intro a w' hoff hg hdep K hK;have h6 := off_at hoff 6 (v := .slice (some ⟨yb, yo, none⟩) L.length lc) (by kernel_rfl) rfl;rw [if_pos (by rfl)];go_simp;exact hK.out _ _ hg rfl (fun _ _ h => h)
          case bd1 =>
           intro a w' hoff hg hdep K hK;have h13 := off_at hoff 13 (v := .int .i64 (q : Int)) (by kernel_rfl) rfl;rw [if_pos (by rfl)];go_simp;exact hK.out _ _ hg rfl (fun _ _ h => h)
          case bd2 =>
           intro a w' hoff hg hdep K hK;obtain ⟨_, e0, rfl⟩ := hdep 0 _ 54 (by kernel_rfl) rfl rfl;obtain ⟨_, e1, rfl⟩ := hdep 1 _ 55 (by kernel_rfl) rfl rfl;rw [if_pos (by rfl)];go_simp;exact hK.out _ _ hg rfl (fun _ _ h => h)
          case bd3 =>
           intro a w' hoff hg hdep K hK;obtain ⟨_, e2, rfl⟩ := hdep 2 _ 56 (by kernel_rfl) rfl rfl;rw [if_pos (by rfl)];go_simp;exact hK.out _ _ hg rfl (fun _ _ h => h)
          case bd4 =>
           intro a w' hoff hg hdep K hK;obtain ⟨_, e3, rfl⟩ := hdep 3 _ 57 (by kernel_rfl) rfl rfl;rw [if_pos (by rfl)];have q1 := (hg.cell (p := ⟨yb, yo + q * 3 + 1, none⟩) (cell_lt y1)).trans y1;go_simp;exact hK.out _ _ hg rfl (fun _ _ h => h)
          case bd5 =>
           intro a w' hoff hg hdep K hK;have h7 := off_at hoff 7 (v := .int .i64 (ka : Int)) (by kernel_rfl) rfl;rw [if_pos (by rfl)];go_simp;exact hK.out _ _ hg rfl (fun _ _ h => h)
          case bd6 =>
           intro a w' hoff hg hdep K hK;obtain ⟨_, e4, rfl⟩ := hdep 4 _ 58 (by kernel_rfl) rfl rfl;obtain ⟨_, e5, rfl⟩ := hdep 5 _ 59 (by kernel_rfl) rfl rfl;rw [if_pos (by rfl)];have b1 : (ka : Int) < (y.args.length : Int) := by have := HNY.out; omega
           have b2 : (0 : Int) ≤ (ka : Int) := Int.natCast_nonneg _;go_simp;exact hK.out _ _ hg rfl (fun _ _ h => h)
          case bd7 =>
           intro a w' hoff hg hdep K hK;obtain ⟨_, e6, rfl⟩ := hdep 6 _ 60 (by kernel_rfl) rfl rfl;rw [if_pos (by rfl)];have q0 := (hg.cell (p := ⟨ub, uo + ka * 4, none⟩) (cell_lt u0)).trans u0;have q1 := (hg.cell (p := ⟨ub, uo + ka * 4 + 1, none⟩) (cell_lt u1)).trans u1;have q2 := (hg.cell (p := ⟨ub, uo + ka * 4 + 2, none⟩) (cell_lt u2)).trans u2;have q3 := (hg.cell (p := ⟨ub, uo + ka * 4 + 3, none⟩) (cell_lt u3)).trans u3;go_simp;exact hK.out _ _ hg rfl (fun _ _ h => h)
          case bd8 =>
           intro a w' hoff hg hdep K hK;have h10 := off_at hoff 10 (v := .slice (some ⟨xb, xo, none⟩) G.length gc) (by kernel_rfl) rfl;rw [if_pos (by rfl)];go_simp;exact hK.out _ _ hg rfl (fun _ _ h => h)
          case bd9 =>
           intro a w' hoff hg hdep K hK;have h11 := off_at hoff 11 (v := .int .i64 (i : Int)) (by kernel_rfl) rfl;rw [if_pos (by rfl)];go_simp;exact hK.out _ _ hg rfl (fun _ _ h => h)
          case bd10 =>
           intro a w' hoff hg hdep K hK;obtain ⟨_, e8, rfl⟩ := hdep 8 _ 62 (by kernel_rfl) rfl rfl;obtain ⟨_, e9, rfl⟩ := hdep 9 _ 63 (by kernel_rfl) rfl rfl;rw [if_pos (by rfl)];go_simp;exact hK.out _ _ hg rfl (fun _ _ h => h)
          case bd11 =>
           intro a w' hoff hg hdep K hK;obtain ⟨_, e10, rfl⟩ := hdep 10 _ 64 (by kernel_rfl) rfl rfl;rw [if_pos (by rfl)];go_simp;exact hK.out _ _ hg rfl (fun _ _ h => h)
          case bd12 =>
           intro a w' hoff hg hdep K hK;obtain ⟨_, e11, rfl⟩ := hdep 11 _ 65 (by kernel_rfl) rfl rfl;rw [if_pos (by rfl)];have q1 := (hg.cell (p := ⟨xb, xo + i * 3 + 1, none⟩) (cell_lt x1)).trans x1;go_simp;exact hK.out _ _ hg rfl (fun _ _ h => h)
          case bd13 =>
           intro a w' hoff hg hdep K hK;have h7 := off_at hoff 7 (v := .int .i64 (ka : Int)) (by kernel_rfl) rfl;rw [if_pos (by rfl)];go_simp;exact hK.out _ _ hg rfl (fun _ _ h => h)
          case bd14 =>
           intro a w' hoff hg hdep K hK;obtain ⟨_, e12, rfl⟩ := hdep 12 _ 66 (by kernel_rfl) rfl rfl;obtain ⟨_, e13, rfl⟩ := hdep 13 _ 67 (by kernel_rfl) rfl rfl;rw [if_pos (by rfl)];have b1 : (ka : Int) < (x.args.length : Int) := by have := HNX.out; omega
           have b2 : (0 : Int) ≤ (ka : Int) := Int.natCast_nonneg _;go_simp;exact hK.out _ _ hg rfl (fun _ _ h => h)
          case bd15 =>
           intro a w' hoff hg hdep K hK;obtain ⟨_, e14, rfl⟩ := hdep 14 _ 68 (by kernel_rfl) rfl rfl;rw [if_pos (by rfl)];have q0 := (hg.cell (p := ⟨rb, ro + ka * 4, none⟩) (cell_lt r0)).trans r0;have q1 := (hg.cell (p := ⟨rb, ro + ka * 4 + 1, none⟩) (cell_lt r1)).trans r1;have q2 := (hg.cell (p := ⟨rb, ro + ka * 4 + 2, none⟩) (cell_lt r2)).trans r2;have q3 := (hg.cell (p := ⟨rb, ro + ka * 4 + 3, none⟩) (cell_lt r3)).trans r3;go_simp;exact hK.out _ _ hg rfl (fun _ _ h => h)
          case bd16 =>
           intro a w' hoff hg hdep K hK;obtain ⟨_, e7, rfl⟩ := hdep 7 _ 61 (by kernel_rfl) rfl rfl;obtain ⟨_, e15, rfl⟩ := hdep 15 _ 69 (by kernel_rfl) rfl rfl;rw [if_pos (by rfl)];go_simp;refine (cmp_any (argR ka y) (argR ka x) w'.heap.size w' _ _ _ _ _ _ _ _ (Nat.le_refl _) (RepG.on (fun k hk => Nat.lt_of_lt_of_le (Nat.lt_of_lt_of_le hk HSZ.out) hg.size) (fun k hk => hg.block k (Nat.lt_of_lt_of_le hk HSZ.out)) _ HU.out) (RepG.on (fun k hk => Nat.lt_of_lt_of_le (Nat.lt_of_lt_of_le hk HSZ.out) hg.size) (fun k hk => hg.block k (Nat.lt_of_lt_of_le hk HSZ.out)) _ HT.out)).mono ?_;rintro e w6 ⟨rfl, hb⟩;rw [HC.out];exact hK.out _ _ (Below.step hg hb) rfl (fSt trivial)
          case bd17 =>
           intro a w' hoff hg hdep K hK;obtain ⟨_, e16, rfl⟩ := hdep 16 _ 70 (by kernel_rfl) rfl rfl;rw [if_pos (by rfl)];go_simp;exact hK.out _ _ hg rfl (fun _ _ h => h)
          case bdfin =>
           intro a w' hoff hg hf;obtain ⟨_, e0, rfl⟩ := hf 0 _ 54 rfl rfl;obtain ⟨_, e1, rfl⟩ := hf 1 _ 55 rfl rfl;obtain ⟨_, e2, rfl⟩ := hf 2 _ 56 rfl rfl;obtain ⟨_, e3, rfl⟩ := hf 3 _ 57 rfl rfl;obtain ⟨_, e4, rfl⟩ := hf 4 _ 58 rfl rfl;obtain ⟨_, e5, rfl⟩ := hf 5 _ 59 rfl rfl;obtain ⟨_, e6, rfl⟩ := hf 6 _ 60 rfl rfl;obtain ⟨_, e7, rfl⟩ := hf 7 _ 61 rfl rfl;obtain ⟨_, e8, rfl⟩ := hf 8 _ 62 rfl rfl;obtain ⟨_, e9, rfl⟩ := hf 9 _ 63 rfl rfl;obtain ⟨_, e10, rfl⟩ := hf 10 _ 64 rfl rfl;obtain ⟨_, e11, rfl⟩ := hf 11 _ 65 rfl rfl;obtain ⟨_, e12, rfl⟩ := hf 12 _ 66 rfl rfl;obtain ⟨_, e13, rfl⟩ := hf 13 _ 67 rfl rfl;obtain ⟨_, e14, rfl⟩ := hf 14 _ 68 rfl rfl;obtain ⟨_, e15, rfl⟩ := hf 15 _ 69 rfl rfl;obtain ⟨_, e16, rfl⟩ := hf 16 _ 70 rfl rfl;obtain ⟨_, e17, rfl⟩ := hf 17 _ 14 rfl rfl;rw [hoff.sets [(54, .slice (some ⟨yb, yo, none⟩) L.length lc), (55, .int .i64 (q : Int)), (56, .pointer (some ⟨yb, yo + q * 3, none⟩)), (57, .pointer (some ⟨yb, yo + q * 3 + 1, none⟩)), (58, .slice (some ⟨ub, uo, none⟩) y.args.length yc), (59, .int .i64 (ka : Int)), (60, .pointer (some ⟨ub, uo + ka * 4, none⟩)), (61, .agg #[.int .i64 (argR ka y).kind, .int .i64 (argR ka y).num, .string (argR ka y).text, .slice ua (argR ka y).list.length uac]), (62, .slice (some ⟨xb, xo, none⟩) G.length gc), (63, .int .i64 (i : Int)), (64, .pointer (some ⟨xb, xo + i * 3, none⟩)), (65, .pointer (some ⟨xb, xo + i * 3 + 1, none⟩)), (66, .slice (some ⟨rb, ro, none⟩) x.args.length xc), (67, .int .i64 (ka : Int)), (68, .pointer (some ⟨rb, ro + ka * 4, none⟩)), (69, .agg #[.int .i64 (argR ka x).kind, .int .i64 (argR ka x).num, .string (argR ka x).text, .slice ra (argR ka x).list.length rac]), (70, .int .i64 0), (14, .int .i64 0)] (by kernel_rfl) (by intro p hp; simp only [List.mem_cons, List.not_mem_nil, or_false] at hp; rcases hp with rfl | rfl | rfl | rfl | rfl | rfl | rfl | rfl | rfl | rfl | rfl | rfl | rfl | rfl | rfl | rfl | rfl | rfl <;> assumption)];clear hoff hf e0 e1 e2 e3 e4 e5 e6 e7 e8 e9 e10 e11 e12 e13 e14 e15 e16 e17;simp only [List.foldl_cons, List.foldl_nil, List.setIfInBounds_toArray, List.set_cons_zero, List.set_cons_succ]
           have HBE := Lib.hid (Below.step HBN.out hg);clear hg HU HT u0 u1 u2 u3 r0 r1 r2 r3 x0 x1 y0 y1 HBN;obtain ⟨b, hb0⟩ : ∃ b, thereB ka x (L.take q) = b := ⟨_, rfl⟩;rw [hb0];clear hb0;have HNX : Hid (thereB ka x (L.take (q + 1)) = true) := by show _ = _; rw [HTK.out]; exact thereB_hit HNA.out HC.out
           cases b
           ·go_wp2_with fail
            go_roundw
            case rel => exact ⟨q + 1, HLQ.out, by go_num, by rw [HNX.out], HBE.out⟩
            case measure => have := HLQ.out; simp [intOf]; omega
           ·go_wp2_with fail
            go_roundw
            case rel => exact ⟨q + 1, HLQ.out, by go_num, by rw [HNX.out], HBE.out⟩
            case measure => have := HLQ.out; simp [intOf]; omega
         ·have HC := Lib.hid hc
          clear hc;exact absurd HNE.out (by rw [HC.out]; decide)
      ·have hql : q = L.length := by omega
       have HT : Hid (thereB ka (G[i]'HIG.out) (L.take q) = true) := by show _ = _; rw [hql, List.take_length]; exact HENI.out.2.1
       rw [HT.out];have k1 : decide ((q : Int) < (L.length : Int)) = false := decide_eq_false (by omega);have k2 : decide (q < L.length) = false := decide_eq_false (by omega);have hig2 : (i : Int) < (G.length : Int) := by have := HIG.out; omega
       have HLT := HIG;clear hq hlq hql HT;go_wp2_with fail
       go_roundw
       case rel => exact ⟨i + 1, HLT.out, by go_num, hbq.out⟩
       case measure => have := HLT.out; simp [intOf]; omega
    ·have hie : i = G.length := by omega
     have k1 : decide ((i : Int) < (G.length : Int)) = false := decide_eq_false (by omega);have k2 : decide (i < G.length) = false := decide_eq_false (by omega);clear hi hlt hie;have HBF := Lib.hid (Below.step HBO.out hbj.out);clear hbj;go_wp2_with fail
     go_roundw
     case rel => exact ⟨3, .inr (.inr rfl), rfl, HBF.out⟩
     case measure => simp [intOf]
  ·clear HLW
   go_wp2_with fail
   go_ret
   exact ⟨rfl, Below.step B.out hbi.out⟩
end Go.Proofs.Ytpnaegohjbaggaa.groupEnds
namespace Go.Proofs.Ytpnaegohjbaggaa.groupEnds
open Go.ChangeShapes Go.WideShapes Go.ChangeAt Go.RowKit
open Go.ChangeMaps (open_string)
set_option maxRecDepth 100000 in
theorem contract (H : Type) (enc : TypeId × Value → H) (W : World) (base : Nat) (args : Array Value) (ds gs : List (DataW H)) (before : List MemPlace)
  (hval : ∀ (j : Nat) t v, Try.f5.params[j]? = some t → args[j]? = some v → Value.okWide Try.prog W .any base t v)
  (hW : DataW.Whole enc Try.prog Try.f5.params.toList Rows.groupEndsSpec.vars false W args.toList ds gs before)
  (hz : (DataW.weightsEach Try.prog (Try.f5.params.toList ++ []) (ds ++ gs)).all (· ≤ reachBytes) = true) (_hL : laidMet Try.prog Rows.groupEndsRow.laid W) :
  Calls Try.prog 5 args W fun e W' => ∃ v, e = .returned v ∧ Rows.groupEndsSpec.post enc Try.prog Try.f5 false true false false W args v W' := by
 have hW' := hW;obtain ⟨p, q, hA0, hV, rfl, hfz, hnd⟩ := hW;have hA : DataW.TrodAll enc Try.prog W 0 (fun _ => true) true Try.f5.params.toList args.toList ds p := hA0;clear hA0;rw [Try.params5] at hA hval hz;obtain ⟨v0, vs0, d0, ds0, p0, q0, hargs, rfl, rfl, h0, r0⟩ := trodAll_cons hA;obtain ⟨v1, vs1, d1, ds1, p1, q1, rfl, rfl, rfl, h1, r1⟩ := trodAll_cons r0;obtain ⟨rfl, rfl, rfl⟩ := trodAll_nil r1;obtain rfl : args = #[v0, v1] := by cases args; simp_all
 obtain ⟨rfl, rfl⟩ := trodVars_none hV;have z0 : (DataW.weightsEach Try.prog [39, 3] [d0, d1]).all (· ≤ reachBytes) = true := by simpa using hz
 obtain ⟨f0, z1⟩ := fits_cons z0;obtain ⟨f1, z2⟩ := fits_cons z1;obtain ⟨x0, g0⟩ := open_rws (hval 0 39 v0 rfl rfl) h0 f0;obtain ⟨x1, rfl, rfl, rfl, g1⟩ := open_int Try.underlying3 (hval 1 3 v1 rfl rfl) h1
 -- USE: walk DATA W CELLS htab FACTS
 refine (walk x0 x1 W v0 g0 (i64_wf g1)).mono fun e W' ⟨he, hb⟩ => ⟨_, he, law_post rfl (by kernel_rfl) (fun t ht => ?_) hW' rfl hb⟩
 rw [Try.params5] at ht;have ht' : t = 39 ∨ t = 3 := by simpa using ht
 rcases ht' with rfl | rfl <;> exact ⟨by kernel_rfl, of_decide_eq_true (by kernel_rfl)⟩
set_option maxRecDepth 100000 in
theorem laid_met (os : Os) : laidMet Try.prog Rows.groupEndsRow.laid ((plainWorld os).forCall (fun _ _ => 0) ⟨#[], #[.slice none 0 0, .int .i64 0], []⟩).memory :=
 laidMet_of_run' 8 (by kernel_rfl) (by kernel_rfl)
set_option maxRecDepth 100000 in
theorem reads (os : Os) {H : Type} (enc : TypeId × Value → H) : ∃ places, DataW.whole enc Try.prog ((plainWorld os).forCall (fun _ _ => 0) ⟨#[], #[.slice none 0 0, .int .i64 0], []⟩).memory Try.f5.params.toList Rows.groupEndsSpec.vars false (#[.slice none 0 0, .int .i64 0] : Array Value).toList 8 = some ([.nil, .lit (.int .i64 0)], [], places) :=
 ⟨[], by kernel_rfl⟩
set_option maxRecDepth 100000 in
theorem lifted (os : Os) (started : os.Started) (H : Type) (enc : TypeId × Value → H) (F : Stop.Interp) :
  ReturnsInHanded {} Try.checked os 5 .any ((OpenSpec.ofChange Rows.groupEndsSpec).preRow enc Try.prog Try.f5 Rows.groupEndsRow.domain false Rows.groupEndsRow.laid) (((OpenSpec.ofChange Rows.groupEndsSpec).at F).post enc Try.prog Try.f5 false true false false) := by
 obtain ⟨places, hx⟩ := reads os enc
 refine returnsInHanded_of_row (C := Try.checked) (s := OpenSpec.ofChange Rows.groupEndsSpec) own started (by kernel_rfl) Try.func5
  (witness_row_at (enc := enc) (C := Try.checked) false (plainWorld os) #[.slice none 0 0, .int .i64 0] rfl (by kernel_rfl) (by kernel_rfl) (by kernel_rfl)
   (OpenSpec.preRow_of_cond 8 hx (by kernel_rfl) (fun k hk => by cases hk) (by kernel_rfl) (laid_met os))) ?_
 intro W base args ds gs before hval hW _ _ hz hL _ _;exact contract H enc W base args ds gs before hval hW hz hL
set_option maxRecDepth 100000 in
theorem said : Rows.GroupEndsSaid :=
 OpenClaim.holds_of_cond 5 Try.f5 rfl rfl rfl rfl rfl rfl rfl ⟨rfl, rfl, rfl, rfl, rfl⟩ rfl rfl rfl rfl rfl (by kernel_rfl) Try.func5 (by kernel_rfl)
  (of_decide_eq_true (by kernel_rfl)) (by unfold Func.isWrapper; first | (rw [if_pos (by decide +kernel)]; kernel_rfl) | (rw [if_neg (by decide +kernel)]; exact ⟨rfl, rfl⟩))
  (fun os started H enc _ F => by rw [OpenClaim.pre_eq_preRow]; exact lifted os started H enc F)
theorem holds : Rows.GroupEndsSaid := said
#print axioms holds
end Go.Proofs.Ytpnaegohjbaggaa.groupEnds
