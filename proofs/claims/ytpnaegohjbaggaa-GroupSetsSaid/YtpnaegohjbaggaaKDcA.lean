/-
  LawGSets, CardGSets
-/
import Derived.Test.YtpnaegohjbaggaaKD24
namespace Go.Proofs.Ytpnaegohjbaggaa.groupSets
open Go.RowKit
set_option maxRecDepth 100000 in
set_option maxHeartbeats 8000000 in
theorem walk (facts : List Rw) (agg at_ : Int) (W : World) (va : Value) (gf : RepRws (fun k => k < W.heap.size) W facts va) (hag : I64 agg) (hat : I64 at_) :
  Calls Try.prog 4 #[va, .int .i64 agg, .int .i64 at_] W fun e W' => e = .returned (.bool true) ∧ Below W.heap.size W W' := by
 obtain ⟨qa, qc, rfl⟩ := SlG.form gf;have GF := Lib.hid gf;have HAG := Lib.hid hag;have HAT := Lib.hid hat;clear gf hag hat;go_enter Try.func4, Try.ntmps4
 go_wp2_with fail
 refine (awake11_any W).mono ?_;rintro e w1 ⟨rfl, hb⟩;have B := Lib.hid hb;clear hb;go_wp2_with fail
 refine (rows_any facts (fun k => k < W.heap.size) w1 _ (fun k hk => Nat.lt_of_lt_of_le hk B.out.size) (SlG.on (fun _ h => h) (fun k hk => B.out.block k hk) (fun _ _ _ h => h) GF.out)).mono ?_;rintro e w2 ⟨hb, lv, rfl, hm⟩;have HR := Lib.hid (right_rowsZ facts);have HST := Lib.hid (stamp_rowsZ facts);have HL40 := Lib.hid (len_rowsZ facts);have hros : RosP (rowsZ facts) w2 lv := RosP.of (MineS.slg hm (by have := HL40.out; omega)) (fun k hk => hk.2);replace B := Lib.hid (Below.step B.out hb);clear hm hb GF;generalize rowsZ facts = L at *;obtain ⟨la, lc, rfl⟩ := SlG.form hros;have HL := Lib.hid hros;have hL63 : L.length ≤ 40 := HL40.out;clear hros;obtain ⟨n, hn, hn2⟩ := pick_nat at_ 2 (by omega);have hwr := wrap_one n hn2;obtain ⟨ka, hK⟩ : ∃ ka, n + 1 = ka := ⟨_, rfl⟩;rw [hK] at hwr;have HK : Hid (1 ≤ ka ∧ ka ≤ 2) := ⟨by omega, by omega⟩;have HN : Hid (pickZ at_ ((2 : Nat) : Int) = (n : Int)) := hn;clear hn hn2 hK;go_wp2_with fail
 refine (pick11_any at_ 2 w2 HAT.out (by omega) (by omega)).mono ?_;rintro e w3 ⟨rfl, rfl⟩;rw [show pickZ at_ 2 = (n : Int) from HN.out];clear HN;go_wp2_with fail
 refine (aggs11_any w2).mono ?_;rintro e w3 ⟨sv, rfl, ⟨sb, rfl, hs3⟩, hb⟩;obtain ⟨j, hj, hj3⟩ := pick_nat agg 3 (by omega);have HJ : Hid (pickZ agg ((3 : Nat) : Int) = (j : Int)) := hj;replace HL : Hid (RosP L w3 (.slice la L.length lc)) := HL.out.on hb;replace B := Lib.hid (Below.step B.out hb);have j1 : (0 : Int) ≤ (j : Int) := Int.natCast_nonneg _;have j2 : (j : Int) < 3 := by omega
 have j3 := str3_cell hs3 hj3;clear hj hb hs3 hj3 hwr;go_wp2_with fail
 refine (pick11_any agg 3 w3 HAG.out (by omega) (by omega)).mono ?_;rintro e w4 ⟨rfl, rfl⟩;rw [show pickZ agg 3 = (j : Int) from HJ.out];clear HJ HAG;go_wp2_with fail
 refine (group_any (aggN j) (ka : Int) L (fun k => k < w3.heap.size) w3 _ (by have := HK.out; unfold I64; omega) (fun _ h => h) HL.out).mono ?_;rintro e w4 ⟨hb, G, v, rfl, -, hgi, hv⟩;have hgi := hgi (aggN_good j) (by have := HK.out; omega);rw [Int.toNat_natCast] at hgi;have HGI := Lib.hid hgi;have hros : RosP G w4 v := RosP.of hv (fun k hk => hk.2);replace HL : Hid (RosP L w4 (.slice la L.length lc)) := HL.out.on hb;replace B := Lib.hid (Below.step B.out hb);obtain ⟨ga, gc, rfl⟩ := SlG.form hros;have HG := Lib.hid hros;have HAP := Lib.hid (group_apart hgi);have hG63 : G.length * 48 ≤ 140737488355328 := SlG.bytes hros;clear hb hgi hv hros j1 j2 j3;go_upto_region 6 with fail
 go_loopw [11] (fun iv wr => ∃ i : Nat, i ≤ G.length ∧ iv = .int .i64 (i : Int) ∧ Hid (Below w4.heap.size w4 wr)) (fun iv _ => G.length - (intOf iv).toNat)
 case atStart => exact ⟨0, Nat.zero_le _, rfl, Below.refl _ _⟩
 case round =>
  obtain ⟨i, hi, rfl, hbi⟩ := hrel;generalize wr = wo at *
  by_cases hlt : i < G.length
  ·have HIG := Lib.hid hlt
   have HBO := hbi;have k1 : decide ((i : Int) < (G.length : Int)) = true := decide_eq_true (by omega);have k2 : decide (i < G.length) = true := decide_eq_true (by omega);have k3 : (0 : Int) ≤ (i : Int) := Int.natCast_nonneg _;have k4 : (i : Int) < (G.length : Int) := by omega
   clear hlt hi hbi;go_upto_region 9 with fail
   clear k1 k2 k3 k4;go_loopw [12] (fun jv wr => ∃ j : Nat, j ≤ i ∧ jv = .int .i64 (j : Int) ∧ Hid (Below w4.heap.size w4 wr)) (fun jv _ => i - (intOf jv).toNat)
   case atStart => exact ⟨0, Nat.zero_le _, rfl, HBO.out⟩
   case round =>
    obtain ⟨m, hm, rfl, hbq⟩ := hrel
    by_cases hlm : m < i
    ·have hig := HIG.out
     have hmg : m < G.length := by omega
     have HV : Hid (alikeB (ka : Int) G[i] G[m] = false) := alikeB_no (List.pairwise_iff_getElem.1 HAP.out m i hmg hig hlm).2;obtain ⟨xb, xo, xf, xc, hex, hSx, x0, x1, x2, hx, -⟩ := RosP.at HG.out hbq.out i hig;subst hex;obtain ⟨yb, yo, yf, yc, hey, hSy, y0, y1, y2, hy, -⟩ := RosP.at HG.out hbq.out m hmg;have he2 := Option.some.inj hey
     injection he2 with e1 e2 e3
     subst e1 e2;clear hey e3;have HX := Lib.hid hx; have HY := Lib.hid hy; have HSZ : Hid (w4.heap.size ≤ wr.heap.size) := hbq.out.size
     have k1 : decide ((m : Int) < (i : Int)) = true := decide_eq_true (by omega);have k2 : decide (m < i) = true := decide_eq_true (by omega);have k3 : (0 : Int) ≤ (m : Int) := Int.natCast_nonneg _;have k4 : (m : Int) < (i : Int) := by omega
     have k5 : (0 : Int) ≤ (i : Int) := Int.natCast_nonneg _;have k6 : (i : Int) < (G.length : Int) := by omega
     have k7 : (m : Int) < (G.length : Int) := by omega
     have HML := Lib.hid hlm;clear hx hy hSx hSy hlm hm;generalize hxx : G[i] = x at *;generalize hyy : G[m] = y at *;clear hxx hyy hig hmg;go_upto_region 11 with fail
     refine wp_region_factsG (by rfl) 119 (by rfl) (by kernel_rfl) (FA [.e (.slice (some ⟨xb, xo, none⟩) G.length gc), .e (.int .i64 (i : Int)), .e (.pointer (some ⟨xb, xo + i * 3, none⟩)), .e (.agg #[.string x.name, .slice xf x.args.length xc, .int .i64 x.stamp]), .e (.slice (some ⟨xb, xo, none⟩) G.length gc), .e (.int .i64 (m : Int)), .e (.pointer (some ⟨xb, xo + m * 3, none⟩)), .e (.agg #[.string y.name, .slice yf y.args.length yc, .int .i64 y.stamp]), .e (.int .i64 (ka : Int)), .e (.bool false)]) (fun w' => Below wr.heap.size wr w') (Below.drew (Below.refl _ _)) ⟨?a0, ?a1, ?a2, ?a3, ?a4, ?a5, ?a6, ?a7, ?a8, ?a9, trivial⟩ ?afin
     case a0 =>
      intro a w' hoff hg hdep K hK;have h10 := off_at hoff 10 (v := .slice (some ⟨xb, xo, none⟩) G.length gc) (by kernel_rfl) rfl;rw [if_pos (by rfl)];go_simp;exact hK.out _ _ hg rfl (fun _ _ h => h)
     case a1 =>
      intro a w' hoff hg hdep K hK;have h11 := off_at hoff 11 (v := .int .i64 (i : Int)) (by kernel_rfl) rfl;rw [if_pos (by rfl)];go_simp;exact hK.out _ _ hg rfl (fun _ _ h => h)
     case a2 =>
      intro a w' hoff hg hdep K hK;obtain ⟨_, e0, rfl⟩ := hdep 0 _ 43 (by kernel_rfl) rfl rfl;obtain ⟨_, e1, rfl⟩ := hdep 1 _ 44 (by kernel_rfl) rfl rfl;rw [if_pos (by rfl)];go_simp;exact hK.out _ _ hg rfl (fun _ _ h => h)
     case a3 =>
      intro a w' hoff hg hdep K hK;obtain ⟨_, e2, rfl⟩ := hdep 2 _ 45 (by kernel_rfl) rfl rfl;rw [if_pos (by rfl)];have q0 := (hg.cell (p := ⟨xb, xo + i * 3, none⟩) (cell_lt x0)).trans x0;have q1 := (hg.cell (p := ⟨xb, xo + i * 3 + 1, none⟩) (cell_lt x1)).trans x1;have q2 := (hg.cell (p := ⟨xb, xo + i * 3 + 2, none⟩) (cell_lt x2)).trans x2;go_simp;exact hK.out _ _ hg rfl (fun _ _ h => h)
     case a4 =>
      intro a w' hoff hg hdep K hK;have h10 := off_at hoff 10 (v := .slice (some ⟨xb, xo, none⟩) G.length gc) (by kernel_rfl) rfl;rw [if_pos (by rfl)];go_simp;exact hK.out _ _ hg rfl (fun _ _ h => h)
     case a5 =>
      intro a w' hoff hg hdep K hK;have h12 := off_at hoff 12 (v := .int .i64 (m : Int)) (by kernel_rfl) rfl;rw [if_pos (by rfl)];go_simp;exact hK.out _ _ hg rfl (fun _ _ h => h)
     case a6 =>
      intro a w' hoff hg hdep K hK;obtain ⟨_, e4, rfl⟩ := hdep 4 _ 47 (by kernel_rfl) rfl rfl;obtain ⟨_, e5, rfl⟩ := hdep 5 _ 48 (by kernel_rfl) rfl rfl;rw [if_pos (by rfl)];go_simp;exact hK.out _ _ hg rfl (fun _ _ h => h)
     case a7 =>
      intro a w' hoff hg hdep K hK;obtain ⟨_, e6, rfl⟩ := hdep 6 _ 49 (by kernel_rfl) rfl rfl;rw [if_pos (by rfl)];have q0 := (hg.cell (p := ⟨xb, xo + m * 3, none⟩) (cell_lt y0)).trans y0;have q1 := (hg.cell (p := ⟨xb, xo + m * 3 + 1, none⟩) (cell_lt y1)).trans y1;have q2 := (hg.cell (p := ⟨xb, xo + m * 3 + 2, none⟩) (cell_lt y2)).trans y2;go_simp;exact hK.out _ _ hg rfl (fun _ _ h => h)
     case a8 =>
      intro a w' hoff hg hdep K hK;have h9 := off_at hoff 9 (v := .int .i64 (ka : Int)) (by kernel_rfl) rfl;rw [if_pos (by rfl)];go_simp;exact hK.out _ _ hg rfl (fun _ _ h => h)
     case a9 =>
      intro a w' hoff hg hdep K hK;obtain ⟨_, e3, rfl⟩ := hdep 3 _ 46 (by kernel_rfl) rfl rfl;obtain ⟨_, e7, rfl⟩ := hdep 7 _ 50 (by kernel_rfl) rfl rfl;obtain ⟨_, e8, rfl⟩ := hdep 8 _ 51 (by kernel_rfl) rfl rfl;rw [if_pos (by rfl)];go_simp;refine (alike_any x y (ka : Int) (fun k => k < w4.heap.size) w' _ _ (fun k hk => Nat.lt_of_lt_of_le hk (Nat.le_trans HSZ.out hg.size)) (RepRo.on (fun _ h => h) (fun k hk => hg.block k (Nat.lt_of_lt_of_le hk HSZ.out)) HX.out) (RepRo.on (fun _ h => h) (fun k hk => hg.block k (Nat.lt_of_lt_of_le hk HSZ.out)) HY.out)).mono ?_;rintro e w6 ⟨rfl, hb⟩;rw [HV.out];exact hK.out _ _ (Below.step hg hb) rfl (fSt trivial)
     case afin =>
      intro a w' hoff hg hf;obtain ⟨_, e0, rfl⟩ := hf 0 _ 43 rfl rfl;obtain ⟨_, e1, rfl⟩ := hf 1 _ 44 rfl rfl;obtain ⟨_, e2, rfl⟩ := hf 2 _ 45 rfl rfl;obtain ⟨_, e3, rfl⟩ := hf 3 _ 46 rfl rfl;obtain ⟨_, e4, rfl⟩ := hf 4 _ 47 rfl rfl;obtain ⟨_, e5, rfl⟩ := hf 5 _ 48 rfl rfl;obtain ⟨_, e6, rfl⟩ := hf 6 _ 49 rfl rfl;obtain ⟨_, e7, rfl⟩ := hf 7 _ 50 rfl rfl;obtain ⟨_, e8, rfl⟩ := hf 8 _ 51 rfl rfl;obtain ⟨_, e9, rfl⟩ := hf 9 _ 52 rfl rfl;rw [hoff.sets [(43, .slice (some ⟨xb, xo, none⟩) G.length gc), (44, .int .i64 (i : Int)), (45, .pointer (some ⟨xb, xo + i * 3, none⟩)), (46, .agg #[.string x.name, .slice xf x.args.length xc, .int .i64 x.stamp]), (47, .slice (some ⟨xb, xo, none⟩) G.length gc), (48, .int .i64 (m : Int)), (49, .pointer (some ⟨xb, xo + m * 3, none⟩)), (50, .agg #[.string y.name, .slice yf y.args.length yc, .int .i64 y.stamp]), (51, .int .i64 (ka : Int)), (52, .bool false)] (by kernel_rfl) (by intro p hp; simp only [List.mem_cons, List.not_mem_nil, or_false] at hp; rcases hp with rfl | rfl | rfl | rfl | rfl | rfl | rfl | rfl | rfl | rfl <;> assumption)];clear hoff hf e0 e1 e2 e3 e4 e5 e6 e7 e8 e9;simp only [List.foldl_cons, List.foldl_nil, List.setIfInBounds_toArray, List.set_cons_zero, List.set_cons_succ]
      have HBN := Lib.hid (Below.step hbq.out hg);clear hg;clear hbq x0 x1 x2 y0 y1 y2;go_wp2_with fail
      go_roundw
      case rel => exact ⟨m + 1, HML.out, by go_num, HBN.out⟩
      case measure => have := HML.out; simp [intOf]; omega
    ·have hmi : m = i := by omega
     have k1 : decide ((m : Int) < (m : Int)) = false := decide_eq_false (by omega);have k2 : decide (m < m) = false := decide_eq_false (by omega);subst hmi;clear hm hlm;go_upto_region 15 with fail
     clear k1 k2;have HBO2 := hbq;clear hbq;generalize wr = wp at *;go_loopw [13, 14] (fun bv jv wr => ∃ (j : Nat) (bm : Int), j ≤ L.length ∧ jv = .int .i64 (j : Int) ∧ bv = .int .i64 bm ∧ Hid (BestI (ka : Int) (G[m]'HIG.out) (L.take j) bm) ∧ Hid (Below w4.heap.size w4 wr)) (fun _ jv _ => L.length - (intOf jv).toNat)
     case atStart => exact ⟨0, -1, Nat.zero_le _, rfl, rfl, by show BestI _ _ _ _; rw [List.take_zero]; exact BestI.nil _ _, HBO2.out⟩
     case round =>
      obtain ⟨q, bm, hq, rfl, rfl, hbest, hbq⟩ := hrel
      by_cases hlq : q < L.length
      ·have hig := HIG.out
       obtain ⟨xb, xo, xf, xc, hex, hSx, x0, x1, x2, hx, -⟩ := RosP.at HG.out hbq.out m hig;subst hex;obtain ⟨yb, yo, yf, yc, hey, hSy, y0, y1, y2, hy, -⟩ := RosP.at HL.out hbq.out q hlq;subst hey;have HX := Lib.hid hx; have HY := Lib.hid hy; have HSZ : Hid (w4.heap.size ≤ wr.heap.size) := hbq.out.size
       have HTK : Hid (L.take (q + 1) = L.take q ++ [L[q]]) := List.take_succ_eq_append_getElem hlq;have HLQ := Lib.hid hlq;have k1 : decide ((q : Int) < (L.length : Int)) = true := decide_eq_true (by omega);have k2 : decide (q < L.length) = true := decide_eq_true (by omega);have k3 : (0 : Int) ≤ (q : Int) := Int.natCast_nonneg _;have k4 : (q : Int) < (L.length : Int) := by omega
       have k5 : (0 : Int) ≤ (m : Int) := Int.natCast_nonneg _;have k6 : (m : Int) < (G.length : Int) := by omega
       obtain ⟨v, hv⟩ : ∃ v, alikeB (ka : Int) G[m] L[q] = v := ⟨_, rfl⟩;have HV := Lib.hid hv;clear hx hy hSx hSy hq hv;generalize hyy : L[q] = y at *;generalize hxx : G[m] = x at *;clear hxx hyy hig hlq;go_upto_region 17 with fail
       cases v
       ·have HNA : Hid (¬ AlikeP (ka : Int) x y) := fun h => by have := HV.out; rw [alikeB_yes h] at this; cases this
        refine wp_region_factsG (by rfl) 119 (by rfl) (by kernel_rfl) (FA [.e (.slice (some ⟨xb, xo, none⟩) G.length gc), .e (.int .i64 (m : Int)), .e (.pointer (some ⟨xb, xo + m * 3, none⟩)), .e (.agg #[.string x.name, .slice xf x.args.length xc, .int .i64 x.stamp]), .e (.slice (some ⟨yb, yo, none⟩) L.length lc), .e (.int .i64 (q : Int)), .e (.pointer (some ⟨yb, yo + q * 3, none⟩)), .e (.agg #[.string y.name, .slice yf y.args.length yc, .int .i64 y.stamp]), .e (.int .i64 (ka : Int)), .e (.bool false)]) (fun w' => Below wr.heap.size wr w') (Below.drew (Below.refl _ _)) ⟨?b0, ?b1, ?b2, ?b3, ?b4, ?b5, ?b6, ?b7, ?b8, ?b9, trivial⟩ ?bfin
        case b0 =>
         intro a w' hoff hg hdep K hK;have h10 := off_at hoff 10 (v := .slice (some ⟨xb, xo, none⟩) G.length gc) (by kernel_rfl) rfl;rw [if_pos (by rfl)];go_simp;exact hK.out _ _ hg rfl (fun _ _ h => h)
        case b1 =>
         intro a w' hoff hg hdep K hK;have h11 := off_at hoff 11 (v := .int .i64 (m : Int)) (by kernel_rfl) rfl;rw [if_pos (by rfl)];go_simp;exact hK.out _ _ hg rfl (fun _ _ h => h)
        case b2 =>
         intro a w' hoff hg hdep K hK;obtain ⟨_, e0, rfl⟩ := hdep 0 _ 59 (by kernel_rfl) rfl rfl;obtain ⟨_, e1, rfl⟩ := hdep 1 _ 60 (by kernel_rfl) rfl rfl;rw [if_pos (by rfl)];go_simp;exact hK.out _ _ hg rfl (fun _ _ h => h)
        case b3 =>
         intro a w' hoff hg hdep K hK;obtain ⟨_, e2, rfl⟩ := hdep 2 _ 61 (by kernel_rfl) rfl rfl;rw [if_pos (by rfl)];have q0 := (hg.cell (p := ⟨xb, xo + m * 3, none⟩) (cell_lt x0)).trans x0;have q1 := (hg.cell (p := ⟨xb, xo + m * 3 + 1, none⟩) (cell_lt x1)).trans x1;have q2 := (hg.cell (p := ⟨xb, xo + m * 3 + 2, none⟩) (cell_lt x2)).trans x2;go_simp;exact hK.out _ _ hg rfl (fun _ _ h => h)
        case b4 =>
         intro a w' hoff hg hdep K hK;have h8 := off_at hoff 8 (v := .slice (some ⟨yb, yo, none⟩) L.length lc) (by kernel_rfl) rfl;rw [if_pos (by rfl)];go_simp;exact hK.out _ _ hg rfl (fun _ _ h => h)
        case b5 =>
         intro a w' hoff hg hdep K hK;have h14 := off_at hoff 14 (v := .int .i64 (q : Int)) (by kernel_rfl) rfl;rw [if_pos (by rfl)];go_simp;exact hK.out _ _ hg rfl (fun _ _ h => h)
        case b6 =>
         intro a w' hoff hg hdep K hK;obtain ⟨_, e4, rfl⟩ := hdep 4 _ 63 (by kernel_rfl) rfl rfl;obtain ⟨_, e5, rfl⟩ := hdep 5 _ 64 (by kernel_rfl) rfl rfl;rw [if_pos (by rfl)];go_simp;exact hK.out _ _ hg rfl (fun _ _ h => h)
        case b7 =>
         intro a w' hoff hg hdep K hK;obtain ⟨_, e6, rfl⟩ := hdep 6 _ 65 (by kernel_rfl) rfl rfl;rw [if_pos (by rfl)];have q0 := (hg.cell (p := ⟨yb, yo + q * 3, none⟩) (cell_lt y0)).trans y0;have q1 := (hg.cell (p := ⟨yb, yo + q * 3 + 1, none⟩) (cell_lt y1)).trans y1;have q2 := (hg.cell (p := ⟨yb, yo + q * 3 + 2, none⟩) (cell_lt y2)).trans y2;go_simp;exact hK.out _ _ hg rfl (fun _ _ h => h)
        case b8 =>
         intro a w' hoff hg hdep K hK;have h9 := off_at hoff 9 (v := .int .i64 (ka : Int)) (by kernel_rfl) rfl;rw [if_pos (by rfl)];go_simp;exact hK.out _ _ hg rfl (fun _ _ h => h)
        case b9 =>
         intro a w' hoff hg hdep K hK;obtain ⟨_, e3, rfl⟩ := hdep 3 _ 62 (by kernel_rfl) rfl rfl;obtain ⟨_, e7, rfl⟩ := hdep 7 _ 66 (by kernel_rfl) rfl rfl;obtain ⟨_, e8, rfl⟩ := hdep 8 _ 67 (by kernel_rfl) rfl rfl;rw [if_pos (by rfl)];go_simp;refine (alike_any x y (ka : Int) (fun k => k < w4.heap.size) w' _ _ (fun k hk => Nat.lt_of_lt_of_le hk (Nat.le_trans HSZ.out hg.size)) (RepRo.on (fun _ h => h) (fun k hk => hg.block k (Nat.lt_of_lt_of_le hk HSZ.out)) HX.out) (RepRo.on (fun _ h => h) (fun k hk => hg.block k (Nat.lt_of_lt_of_le hk HSZ.out)) HY.out)).mono ?_;rintro e w6 ⟨rfl, hb⟩;rw [HV.out];exact hK.out _ _ (Below.step hg hb) rfl (fSt trivial)
        case bfin =>
         intro a w' hoff hg hf;obtain ⟨_, e0, rfl⟩ := hf 0 _ 59 rfl rfl;obtain ⟨_, e1, rfl⟩ := hf 1 _ 60 rfl rfl;obtain ⟨_, e2, rfl⟩ := hf 2 _ 61 rfl rfl;obtain ⟨_, e3, rfl⟩ := hf 3 _ 62 rfl rfl;obtain ⟨_, e4, rfl⟩ := hf 4 _ 63 rfl rfl;obtain ⟨_, e5, rfl⟩ := hf 5 _ 64 rfl rfl;obtain ⟨_, e6, rfl⟩ := hf 6 _ 65 rfl rfl;obtain ⟨_, e7, rfl⟩ := hf 7 _ 66 rfl rfl;obtain ⟨_, e8, rfl⟩ := hf 8 _ 67 rfl rfl;obtain ⟨_, e9, rfl⟩ := hf 9 _ 68 rfl rfl;rw [hoff.sets [(59, .slice (some ⟨xb, xo, none⟩) G.length gc), (60, .int .i64 (m : Int)), (61, .pointer (some ⟨xb, xo + m * 3, none⟩)), (62, .agg #[.string x.name, .slice xf x.args.length xc, .int .i64 x.stamp]), (63, .slice (some ⟨yb, yo, none⟩) L.length lc), (64, .int .i64 (q : Int)), (65, .pointer (some ⟨yb, yo + q * 3, none⟩)), (66, .agg #[.string y.name, .slice yf y.args.length yc, .int .i64 y.stamp]), (67, .int .i64 (ka : Int)), (68, .bool false)] (by kernel_rfl) (by intro p hp; simp only [List.mem_cons, List.not_mem_nil, or_false] at hp; rcases hp with rfl | rfl | rfl | rfl | rfl | rfl | rfl | rfl | rfl | rfl <;> assumption)];clear hoff hf e0 e1 e2 e3 e4 e5 e6 e7 e8 e9;simp only [List.foldl_cons, List.foldl_nil, List.setIfInBounds_toArray, List.set_cons_zero, List.set_cons_succ]
         have HBN := Lib.hid (Below.step hbq.out hg);clear hg;clear hbq x0 x1 x2 y0 y1 y2;go_wp2_with fail
         go_roundw
         case rel => exact ⟨q + 1, bm, HLQ.out, by go_num, rfl, by show BestI _ _ _ _; rw [HTK.out]; exact hbest.out.no HNA.out, HBN.out⟩
         case measure => have := HLQ.out; simp [intOf]; omega
       ·have HNA : Hid (AlikeP (ka : Int) x y) := Classical.byContradiction fun h => by have := HV.out; rw [alikeB_no h] at this; cases this
        refine wp_region_factsG (by rfl) 119 (by rfl) (by kernel_rfl) (FA [.e (.slice (some ⟨xb, xo, none⟩) G.length gc), .e (.int .i64 (m : Int)), .e (.pointer (some ⟨xb, xo + m * 3, none⟩)), .e (.agg #[.string x.name, .slice xf x.args.length xc, .int .i64 x.stamp]), .e (.slice (some ⟨yb, yo, none⟩) L.length lc), .e (.int .i64 (q : Int)), .e (.pointer (some ⟨yb, yo + q * 3, none⟩)), .e (.agg #[.string y.name, .slice yf y.args.length yc, .int .i64 y.stamp]), .e (.int .i64 (ka : Int)), .e (.bool true)]) (fun w' => Below wr.heap.size wr w') (Below.drew (Below.refl _ _)) ⟨?c0, ?c1, ?c2, ?c3, ?c4, ?c5, ?c6, ?c7, ?c8, ?c9, trivial⟩ ?cfin
        case c0 =>
         intro a w' hoff hg hdep K hK;have h10 := off_at hoff 10 (v := .slice (some ⟨xb, xo, none⟩) G.length gc) (by kernel_rfl) rfl;rw [if_pos (by rfl)];go_simp;exact hK.out _ _ hg rfl (fun _ _ h => h)
        case c1 =>
         intro a w' hoff hg hdep K hK;have h11 := off_at hoff 11 (v := .int .i64 (m : Int)) (by kernel_rfl) rfl;rw [if_pos (by rfl)];go_simp;exact hK.out _ _ hg rfl (fun _ _ h => h)
        case c2 =>
         intro a w' hoff hg hdep K hK;obtain ⟨_, e0, rfl⟩ := hdep 0 _ 59 (by kernel_rfl) rfl rfl;obtain ⟨_, e1, rfl⟩ := hdep 1 _ 60 (by kernel_rfl) rfl rfl;rw [if_pos (by rfl)];go_simp;exact hK.out _ _ hg rfl (fun _ _ h => h)
        case c3 =>
         intro a w' hoff hg hdep K hK;obtain ⟨_, e2, rfl⟩ := hdep 2 _ 61 (by kernel_rfl) rfl rfl;rw [if_pos (by rfl)];have q0 := (hg.cell (p := ⟨xb, xo + m * 3, none⟩) (cell_lt x0)).trans x0;have q1 := (hg.cell (p := ⟨xb, xo + m * 3 + 1, none⟩) (cell_lt x1)).trans x1;have q2 := (hg.cell (p := ⟨xb, xo + m * 3 + 2, none⟩) (cell_lt x2)).trans x2;go_simp;exact hK.out _ _ hg rfl (fun _ _ h => h)
        case c4 =>
         intro a w' hoff hg hdep K hK;have h8 := off_at hoff 8 (v := .slice (some ⟨yb, yo, none⟩) L.length lc) (by kernel_rfl) rfl;rw [if_pos (by rfl)];go_simp;exact hK.out _ _ hg rfl (fun _ _ h => h)
        case c5 =>
         intro a w' hoff hg hdep K hK;have h14 := off_at hoff 14 (v := .int .i64 (q : Int)) (by kernel_rfl) rfl;rw [if_pos (by rfl)];go_simp;exact hK.out _ _ hg rfl (fun _ _ h => h)
        case c6 =>
         intro a w' hoff hg hdep K hK;obtain ⟨_, e4, rfl⟩ := hdep 4 _ 63 (by kernel_rfl) rfl rfl;obtain ⟨_, e5, rfl⟩ := hdep 5 _ 64 (by kernel_rfl) rfl rfl;rw [if_pos (by rfl)];go_simp;exact hK.out _ _ hg rfl (fun _ _ h => h)
        case c7 =>
         intro a w' hoff hg hdep K hK;obtain ⟨_, e6, rfl⟩ := hdep 6 _ 65 (by kernel_rfl) rfl rfl;rw [if_pos (by rfl)];have q0 := (hg.cell (p := ⟨yb, yo + q * 3, none⟩) (cell_lt y0)).trans y0;have q1 := (hg.cell (p := ⟨yb, yo + q * 3 + 1, none⟩) (cell_lt y1)).trans y1;have q2 := (hg.cell (p := ⟨yb, yo + q * 3 + 2, none⟩) (cell_lt y2)).trans y2;go_simp;exact hK.out _ _ hg rfl (fun _ _ h => h)
        case c8 =>
         intro a w' hoff hg hdep K hK;have h9 := off_at hoff 9 (v := .int .i64 (ka : Int)) (by kernel_rfl) rfl;rw [if_pos (by rfl)];go_simp;exact hK.out _ _ hg rfl (fun _ _ h => h)
        case c9 =>
         intro a w' hoff hg hdep K hK;obtain ⟨_, e3, rfl⟩ := hdep 3 _ 62 (by kernel_rfl) rfl rfl;obtain ⟨_, e7, rfl⟩ := hdep 7 _ 66 (by kernel_rfl) rfl rfl;obtain ⟨_, e8, rfl⟩ := hdep 8 _ 67 (by kernel_rfl) rfl rfl;rw [if_pos (by rfl)];go_simp;refine (alike_any x y (ka : Int) (fun k => k < w4.heap.size) w' _ _ (fun k hk => Nat.lt_of_lt_of_le hk (Nat.le_trans HSZ.out hg.size)) (RepRo.on (fun _ h => h) (fun k hk => hg.block k (Nat.lt_of_lt_of_le hk HSZ.out)) HX.out) (RepRo.on (fun _ h => h) (fun k hk => hg.block k (Nat.lt_of_lt_of_le hk HSZ.out)) HY.out)).mono ?_;rintro e w6 ⟨rfl, hb⟩;rw [HV.out];exact hK.out _ _ (Below.step hg hb) rfl (fSt trivial)
        case cfin =>
         intro a w' hoff hg hf;obtain ⟨_, e0, rfl⟩ := hf 0 _ 59 rfl rfl;obtain ⟨_, e1, rfl⟩ := hf 1 _ 60 rfl rfl;obtain ⟨_, e2, rfl⟩ := hf 2 _ 61 rfl rfl;obtain ⟨_, e3, rfl⟩ := hf 3 _ 62 rfl rfl;obtain ⟨_, e4, rfl⟩ := hf 4 _ 63 rfl rfl;obtain ⟨_, e5, rfl⟩ := hf 5 _ 64 rfl rfl;obtain ⟨_, e6, rfl⟩ := hf 6 _ 65 rfl rfl;obtain ⟨_, e7, rfl⟩ := hf 7 _ 66 rfl rfl;obtain ⟨_, e8, rfl⟩ := hf 8 _ 67 rfl rfl;obtain ⟨_, e9, rfl⟩ := hf 9 _ 68 rfl rfl;rw [hoff.sets [(59, .slice (some ⟨xb, xo, none⟩) G.length gc), (60, .int .i64 (m : Int)), (61, .pointer (some ⟨xb, xo + m * 3, none⟩)), (62, .agg #[.string x.name, .slice xf x.args.length xc, .int .i64 x.stamp]), (63, .slice (some ⟨yb, yo, none⟩) L.length lc), (64, .int .i64 (q : Int)), (65, .pointer (some ⟨yb, yo + q * 3, none⟩)), (66, .agg #[.string y.name, .slice yf y.args.length yc, .int .i64 y.stamp]), (67, .int .i64 (ka : Int)), (68, .bool true)] (by kernel_rfl) (by intro p hp; simp only [List.mem_cons, List.not_mem_nil, or_false] at hp; rcases hp with rfl | rfl | rfl | rfl | rfl | rfl | rfl | rfl | rfl | rfl <;> assumption)];clear hoff hf e0 e1 e2 e3 e4 e5 e6 e7 e8 e9;simp only [List.foldl_cons, List.foldl_nil, List.setIfInBounds_toArray, List.set_cons_zero, List.set_cons_succ]
         have HBN := Lib.hid (Below.step hbq.out hg);have HBT := Lib.hid hg;clear hg;have z0 : w'.cell? ⟨yb, yo + q * 3 + 2, none⟩ = some (.int .i64 y.stamp) := (HBT.out.cell (cell_lt y2)).trans y2;clear hbq HBT x0 x1 x2 y0 y1 y2;have HBE := HBN
         by_cases hc : bm < y.stamp
         ·have c1 : decide (bm < y.stamp) = true := decide_eq_true hc
          have c2 : ¬ y.stamp ≤ bm := by omega
          have HBB : Hid (BestI (ka : Int) x (L.take (q + 1)) (max bm y.stamp)) := by
           show BestI _ _ _ _
           rw [HTK.out];exact hbest.out.yes HNA.out
          clear hbest;go_wp2_with fail
          go_roundw
          case rel => exact ⟨q + 1, _, HLQ.out, by go_num, rfl, HBB, HBE.out⟩
          case measure => have := HLQ.out; simp [intOf]; omega
         ·have c1 : decide (bm < y.stamp) = false := decide_eq_false hc
          have c2 : y.stamp ≤ bm := by omega
          have HBB : Hid (BestI (ka : Int) x (L.take (q + 1)) (max bm y.stamp)) := by
           show BestI _ _ _ _
           rw [HTK.out];exact hbest.out.yes HNA.out
          clear hbest;go_wp2_with fail
          go_roundw
          case rel => exact ⟨q + 1, _, HLQ.out, by go_num, rfl, HBB, HBE.out⟩
          case measure => have := HLQ.out; simp [intOf]; omega
      ·have hql : q = L.length := by omega
       have HE : Hid (bm = (G[m]'HIG.out).stamp) := BestI.is HR.out (fun x hx => (HST.out x hx).1) HGI.out (List.getElem_mem HIG.out) (by have := hbest.out; rw [hql, List.take_length] at this; exact this);have k1 : decide ((q : Int) < (L.length : Int)) = false := decide_eq_false (by omega);have k2 : decide (q < L.length) = false := decide_eq_false (by omega);have hig := HIG.out;obtain ⟨xb, xo, xf, xc, hex, hSx, x0, x1, x2, hx, -⟩ := RosP.at HG.out hbq.out m hig;subst hex;have k5 : (0 : Int) ≤ (m : Int) := Int.natCast_nonneg _;have k6 : (m : Int) < (G.length : Int) := by omega
       have HLT := Lib.hid hig;clear hql hq hlq hbest hx hSx;generalize hxx : G[m] = x at *;have he := HE.out;clear hxx hig HE;subst he;have k7 : (x.stamp != x.stamp) = false := by simp
       go_wp2_with fail
       go_roundw
       case rel => exact ⟨m + 1, HLT.out, by go_num, hbq.out⟩
       case measure => have := HLT.out; simp [intOf]; omega
  ·have hie : i = G.length := by omega
   have k1 : decide ((i : Int) < (G.length : Int)) = false := decide_eq_false (by omega);have k2 : decide (i < G.length) = false := decide_eq_false (by omega);clear hi hlt hie;go_upto_region 22 with fail
   clear k1 k2;have HBO := hbi;clear hbi;generalize wo = wp at *;go_loopw [15] (fun jv wr => ∃ j : Nat, j ≤ L.length ∧ jv = .int .i64 (j : Int) ∧ Hid (Below w4.heap.size w4 wr)) (fun jv _ => L.length - (intOf jv).toNat)
   case atStart => exact ⟨0, Nat.zero_le _, rfl, HBO.out⟩
   case round =>
    obtain ⟨q, hq, rfl, hbq⟩ := hrel
    by_cases hlq : q < L.length
    ·have HLQ := Lib.hid hlq
     obtain ⟨zb, zo, zf, zc, hez, hSz, z0, z1, z2, hz, -⟩ := RosP.at HL.out hbq.out q HLQ.out;subst hez;obtain ⟨b, hbd⟩ : ∃ b, decide ((L[q]'HLQ.out).args.length ≤ ka) = b := ⟨_, rfl⟩;have HBD := Lib.hid hbd;have k1 : decide ((q : Int) < (L.length : Int)) = true := decide_eq_true (by omega);have k2 : decide (q < L.length) = true := decide_eq_true (by omega);have k3 : (0 : Int) ≤ (q : Int) := Int.natCast_nonneg _;have k4 : (q : Int) < (L.length : Int) := by omega
     clear hz hSz hq;generalize hyy : L[q]'HLQ.out = y at *;have HYY := Lib.hid hyy;have k5 : decide ((y.args.length : Int) ≤ (ka : Int)) = b := by rw [← hbd]; simp
     clear hyy hlq;go_upto_region 26 with fail
     clear k1 k2 k3 k4 k5 hbd z0 z1 z2;have HBO2 := hbq;clear hbq;generalize wr = wx at *;go_loopw [16, 17] (fun bv jv wr => ∃ r : Nat, r ≤ G.length ∧ jv = .int .i64 (r : Int) ∧ bv = .bool (b || (G.take r).any fun x => alikeB (ka : Int) x y) ∧ Hid (Below w4.heap.size w4 wr)) (fun _ jv _ => G.length - (intOf jv).toNat)
     case atStart => exact ⟨0, Nat.zero_le _, rfl, by rw [List.take_zero, List.any_nil, Bool.or_false], HBO2.out⟩
     case round =>
      obtain ⟨r, hr, rfl, rfl, hbr⟩ := hrel
      by_cases hlr : r < G.length
      ·have HLR := Lib.hid hlr
       have HLY := HLQ.out;obtain ⟨c, hc⟩ : ∃ c, (b || (G.take r).any fun x => alikeB (ka : Int) x y) = c := ⟨_, rfl⟩;have HC := Lib.hid hc;rw [hc];clear hc;obtain ⟨xb, xo, xf, xc, hex, hSx, x0, x1, x2, hx, -⟩ := RosP.at HG.out hbr.out r HLR.out;subst hex;obtain ⟨yb, yo, yf, yc, hey, hSy, y0, y1, y2, hy, -⟩ := RosP.at HL.out hbr.out q HLQ.out;have he2 := Option.some.inj hey
       injection he2 with e1 e2 e3
       subst e1 e2;clear hey e3;have HX := Lib.hid hx;have HY := Lib.hid hy;rw [HYY.out] at HY y0 y1 y2;have HSZ : Hid (w4.heap.size ≤ wr.heap.size) := hbr.out.size;have k1 : decide ((r : Int) < (G.length : Int)) = true := decide_eq_true (by omega);have k2 : decide (r < G.length) = true := decide_eq_true (by omega);have k3 : (0 : Int) ≤ (r : Int) := Int.natCast_nonneg _;have k4 : (r : Int) < (G.length : Int) := by omega
       have k5 : (0 : Int) ≤ (q : Int) := Int.natCast_nonneg _;have k6 : (q : Int) < (L.length : Int) := by omega
       clear hx hy hSx hSy hr;generalize hxx : G[r]'HLR.out = x at *;have HXX := Lib.hid hxx;clear hxx hlr HLY
       cases c
       ·obtain ⟨v, hv⟩ : ∃ v, alikeB (ka : Int) x y = v := ⟨_, rfl⟩
        have HV := Lib.hid hv;have HV2 : Hid (alikeB (ka : Int) (G[r]'HLR.out) y = v) := by show _ = _; rw [HXX.out]; exact hv
        clear hv;go_upto_region 28 with fail
        cases v
        ·refine wp_region_factsL (by rfl) 119 (by rfl) (by kernel_rfl) (FA [.e (.bool false), .e (.bool false), .e (.slice (some ⟨xb, xo, none⟩) G.length gc), .e (.int .i64 (r : Int)), .e (.pointer (some ⟨xb, xo + r * 3, none⟩)), .e (.agg #[.string x.name, .slice xf x.args.length xc, .int .i64 x.stamp]), .e (.slice (some ⟨zb, zo, none⟩) L.length lc), .e (.int .i64 (q : Int)), .e (.pointer (some ⟨zb, zo + q * 3, none⟩)), .e (.agg #[.string y.name, .slice yf y.args.length yc, .int .i64 y.stamp]), .e (.int .i64 (ka : Int)), .e (.bool false), .e (.bool false)]) (fun w' => Below wr.heap.size wr w') (Below.drew (Below.refl _ _)) ⟨?d0, ?d1, ?d2, ?d3, ?d4, ?d5, ?d6, ?d7, ?d8, ?d9, ?d10, ?d11, ?d12, trivial⟩ (by rfl) ?dlast (by decide)
         case d0 =>
          intro a w' hoff hg hdep K hK;have h16 := off_at hoff 16 (v := .bool false) (by kernel_rfl) rfl;rw [if_pos (by rfl)];go_simp;exact hK.out _ _ hg rfl (fun _ _ h => h)
         case d1 =>
          intro a w' hoff hg hdep K hK;obtain ⟨_, e0, rfl⟩ := hdep 0 _ 103 (by kernel_rfl) rfl rfl;rw [if_pos (by rfl)];go_simp;exact hK.out _ _ hg rfl (fun _ _ h => h)
         case d2 =>
          intro a w' hoff hg hdep K hK;have h10 := off_at hoff 10 (v := .slice (some ⟨xb, xo, none⟩) G.length gc) (by kernel_rfl) rfl;obtain ⟨_, e1, rfl⟩ := hdep 1 _ 104 (by kernel_rfl) rfl rfl;rw [if_pos (by simp [Region.wanted, yielded, e1])];go_simp;exact hK.out _ _ hg rfl (fun _ _ h => h)
         case d3 =>
          intro a w' hoff hg hdep K hK;have h17 := off_at hoff 17 (v := .int .i64 (r : Int)) (by kernel_rfl) rfl;obtain ⟨_, e1, rfl⟩ := hdep 1 _ 104 (by kernel_rfl) rfl rfl;rw [if_pos (by simp [Region.wanted, yielded, e1])];go_simp;exact hK.out _ _ hg rfl (fun _ _ h => h)
         case d4 =>
          intro a w' hoff hg hdep K hK;obtain ⟨_, e2, rfl⟩ := hdep 2 _ 105 (by kernel_rfl) rfl rfl;obtain ⟨_, e3, rfl⟩ := hdep 3 _ 106 (by kernel_rfl) rfl rfl;obtain ⟨_, e1, rfl⟩ := hdep 1 _ 104 (by kernel_rfl) rfl rfl;rw [if_pos (by simp [Region.wanted, yielded, e1])];go_simp;exact hK.out _ _ hg rfl (fun _ _ h => h)
         case d5 =>
          intro a w' hoff hg hdep K hK;obtain ⟨_, e4, rfl⟩ := hdep 4 _ 107 (by kernel_rfl) rfl rfl;obtain ⟨_, e1, rfl⟩ := hdep 1 _ 104 (by kernel_rfl) rfl rfl;rw [if_pos (by simp [Region.wanted, yielded, e1])];have q0 := (hg.cell (p := ⟨xb, xo + r * 3, none⟩) (cell_lt x0)).trans x0;have q1 := (hg.cell (p := ⟨xb, xo + r * 3 + 1, none⟩) (cell_lt x1)).trans x1;have q2 := (hg.cell (p := ⟨xb, xo + r * 3 + 2, none⟩) (cell_lt x2)).trans x2;go_simp;exact hK.out _ _ hg rfl (fun _ _ h => h)
         case d6 =>
          intro a w' hoff hg hdep K hK;have h8 := off_at hoff 8 (v := .slice (some ⟨zb, zo, none⟩) L.length lc) (by kernel_rfl) rfl;obtain ⟨_, e1, rfl⟩ := hdep 1 _ 104 (by kernel_rfl) rfl rfl;rw [if_pos (by simp [Region.wanted, yielded, e1])];go_simp;exact hK.out _ _ hg rfl (fun _ _ h => h)
         case d7 =>
          intro a w' hoff hg hdep K hK;have h15 := off_at hoff 15 (v := .int .i64 (q : Int)) (by kernel_rfl) rfl;obtain ⟨_, e1, rfl⟩ := hdep 1 _ 104 (by kernel_rfl) rfl rfl;rw [if_pos (by simp [Region.wanted, yielded, e1])];go_simp;exact hK.out _ _ hg rfl (fun _ _ h => h)
         case d8 =>
          intro a w' hoff hg hdep K hK;obtain ⟨_, e6, rfl⟩ := hdep 6 _ 109 (by kernel_rfl) rfl rfl;obtain ⟨_, e7, rfl⟩ := hdep 7 _ 110 (by kernel_rfl) rfl rfl;obtain ⟨_, e1, rfl⟩ := hdep 1 _ 104 (by kernel_rfl) rfl rfl;rw [if_pos (by simp [Region.wanted, yielded, e1])];go_simp;exact hK.out _ _ hg rfl (fun _ _ h => h)
         case d9 =>
          intro a w' hoff hg hdep K hK;obtain ⟨_, e8, rfl⟩ := hdep 8 _ 111 (by kernel_rfl) rfl rfl;obtain ⟨_, e1, rfl⟩ := hdep 1 _ 104 (by kernel_rfl) rfl rfl;rw [if_pos (by simp [Region.wanted, yielded, e1])];have q0 := (hg.cell (p := ⟨zb, zo + q * 3, none⟩) (cell_lt y0)).trans y0;have q1 := (hg.cell (p := ⟨zb, zo + q * 3 + 1, none⟩) (cell_lt y1)).trans y1;have q2 := (hg.cell (p := ⟨zb, zo + q * 3 + 2, none⟩) (cell_lt y2)).trans y2;go_simp;exact hK.out _ _ hg rfl (fun _ _ h => h)
         case d10 =>
          intro a w' hoff hg hdep K hK;have h9 := off_at hoff 9 (v := .int .i64 (ka : Int)) (by kernel_rfl) rfl;obtain ⟨_, e1, rfl⟩ := hdep 1 _ 104 (by kernel_rfl) rfl rfl;rw [if_pos (by simp [Region.wanted, yielded, e1])];go_simp;exact hK.out _ _ hg rfl (fun _ _ h => h)
         case d11 =>
          intro a w' hoff hg hdep K hK;obtain ⟨_, e5, rfl⟩ := hdep 5 _ 108 (by kernel_rfl) rfl rfl;obtain ⟨_, e9, rfl⟩ := hdep 9 _ 112 (by kernel_rfl) rfl rfl;obtain ⟨_, e10, rfl⟩ := hdep 10 _ 113 (by kernel_rfl) rfl rfl;obtain ⟨_, e1, rfl⟩ := hdep 1 _ 104 (by kernel_rfl) rfl rfl;rw [if_pos (by simp [Region.wanted, yielded, e1])];go_simp;refine (alike_any x y (ka : Int) (fun k => k < w4.heap.size) w' _ _ (fun k hk => Nat.lt_of_lt_of_le hk (Nat.le_trans HSZ.out hg.size)) (RepRo.on (fun _ h => h) (fun k hk => hg.block k (Nat.lt_of_lt_of_le hk HSZ.out)) HX.out) (RepRo.on (fun _ h => h) (fun k hk => hg.block k (Nat.lt_of_lt_of_le hk HSZ.out)) HY.out)).mono ?_;rintro e w6 ⟨rfl, hb⟩;rw [HV.out];exact hK.out _ _ (Below.step hg hb) rfl (fSt trivial)
         case d12 =>
          intro a w' hoff hg hdep K hK;obtain ⟨_, e1, rfl⟩ := hdep 1 _ 104 (by kernel_rfl) rfl rfl;obtain ⟨_, e11, rfl⟩ := hdep 11 _ 114 (by kernel_rfl) rfl rfl;rw [if_pos (by rfl)];go_simp;exact hK.out _ _ hg rfl (fun _ _ h => h)
         case dlast =>
          intro a w' hoff hg hf;obtain ⟨_, e0, rfl⟩ := hf 0 _ 103 (by decide) rfl rfl;obtain ⟨_, e1, rfl⟩ := hf 1 _ 104 (by decide) rfl rfl;obtain ⟨_, e2, rfl⟩ := hf 2 _ 105 (by decide) rfl rfl;obtain ⟨_, e3, rfl⟩ := hf 3 _ 106 (by decide) rfl rfl;obtain ⟨_, e4, rfl⟩ := hf 4 _ 107 (by decide) rfl rfl;obtain ⟨_, e5, rfl⟩ := hf 5 _ 108 (by decide) rfl rfl;obtain ⟨_, e6, rfl⟩ := hf 6 _ 109 (by decide) rfl rfl;obtain ⟨_, e7, rfl⟩ := hf 7 _ 110 (by decide) rfl rfl;obtain ⟨_, e8, rfl⟩ := hf 8 _ 111 (by decide) rfl rfl;obtain ⟨_, e9, rfl⟩ := hf 9 _ 112 (by decide) rfl rfl;obtain ⟨_, e10, rfl⟩ := hf 10 _ 113 (by decide) rfl rfl;obtain ⟨_, e11, rfl⟩ := hf 11 _ 114 (by decide) rfl rfl;obtain ⟨_, e12, rfl⟩ := hf 12 _ 115 (by decide) rfl rfl;rw [if_pos (by rfl)];rw [hoff.sets [(103, .bool false), (104, .bool false), (105, .slice (some ⟨xb, xo, none⟩) G.length gc), (106, .int .i64 (r : Int)), (107, .pointer (some ⟨xb, xo + r * 3, none⟩)), (108, .agg #[.string x.name, .slice xf x.args.length xc, .int .i64 x.stamp]), (109, .slice (some ⟨zb, zo, none⟩) L.length lc), (110, .int .i64 (q : Int)), (111, .pointer (some ⟨zb, zo + q * 3, none⟩)), (112, .agg #[.string y.name, .slice yf y.args.length yc, .int .i64 y.stamp]), (113, .int .i64 (ka : Int)), (114, .bool false), (115, .bool false)] (by kernel_rfl) (by intro p hp; simp only [List.mem_cons, List.not_mem_nil, or_false] at hp; rcases hp with rfl | rfl | rfl | rfl | rfl | rfl | rfl | rfl | rfl | rfl | rfl | rfl | rfl <;> assumption)];clear hoff hf e0 e1 e2 e3 e4 e5 e6 e7 e8 e9 e10 e11 e12;simp only [List.foldl_cons, List.foldl_nil, List.setIfInBounds_toArray, List.set_cons_zero, List.set_cons_succ]
          go_simp;have HBN := Lib.hid (Below.step hbr.out hg);clear hg hbr x0 x1 x2 y0 y1 y2;go_wp2_with fail
          go_roundw
          case rel => exact ⟨r + 1, HLR.out, by go_num, by rw [any_snoc _ _ HLR.out, ← Bool.or_assoc, HC.out, HV2.out] <;> rfl, HBN.out⟩
          case measure => have := HLR.out; simp [intOf]; omega
        ·refine wp_region_factsL (by rfl) 119 (by rfl) (by kernel_rfl) (FA [.e (.bool false), .e (.bool false), .e (.slice (some ⟨xb, xo, none⟩) G.length gc), .e (.int .i64 (r : Int)), .e (.pointer (some ⟨xb, xo + r * 3, none⟩)), .e (.agg #[.string x.name, .slice xf x.args.length xc, .int .i64 x.stamp]), .e (.slice (some ⟨zb, zo, none⟩) L.length lc), .e (.int .i64 (q : Int)), .e (.pointer (some ⟨zb, zo + q * 3, none⟩)), .e (.agg #[.string y.name, .slice yf y.args.length yc, .int .i64 y.stamp]), .e (.int .i64 (ka : Int)), .e (.bool true), .e (.bool true)]) (fun w' => Below wr.heap.size wr w') (Below.drew (Below.refl _ _)) ⟨?e0, ?e1, ?e2, ?e3, ?e4, ?e5, ?e6, ?e7, ?e8, ?e9, ?e10, ?e11, ?e12, trivial⟩ (by rfl) ?elast (by decide)
         case e0 =>
          intro a w' hoff hg hdep K hK;have h16 := off_at hoff 16 (v := .bool false) (by kernel_rfl) rfl;rw [if_pos (by rfl)];go_simp;exact hK.out _ _ hg rfl (fun _ _ h => h)
         case e1 =>
          intro a w' hoff hg hdep K hK;obtain ⟨_, e0, rfl⟩ := hdep 0 _ 103 (by kernel_rfl) rfl rfl;rw [if_pos (by rfl)];go_simp;exact hK.out _ _ hg rfl (fun _ _ h => h)
         case e2 =>
          intro a w' hoff hg hdep K hK;have h10 := off_at hoff 10 (v := .slice (some ⟨xb, xo, none⟩) G.length gc) (by kernel_rfl) rfl;obtain ⟨_, e1, rfl⟩ := hdep 1 _ 104 (by kernel_rfl) rfl rfl;rw [if_pos (by simp [Region.wanted, yielded, e1])];go_simp;exact hK.out _ _ hg rfl (fun _ _ h => h)
         case e3 =>
          intro a w' hoff hg hdep K hK;have h17 := off_at hoff 17 (v := .int .i64 (r : Int)) (by kernel_rfl) rfl;obtain ⟨_, e1, rfl⟩ := hdep 1 _ 104 (by kernel_rfl) rfl rfl;rw [if_pos (by simp [Region.wanted, yielded, e1])];go_simp;exact hK.out _ _ hg rfl (fun _ _ h => h)
         case e4 =>
          intro a w' hoff hg hdep K hK;obtain ⟨_, e2, rfl⟩ := hdep 2 _ 105 (by kernel_rfl) rfl rfl;obtain ⟨_, e3, rfl⟩ := hdep 3 _ 106 (by kernel_rfl) rfl rfl;obtain ⟨_, e1, rfl⟩ := hdep 1 _ 104 (by kernel_rfl) rfl rfl;rw [if_pos (by simp [Region.wanted, yielded, e1])];go_simp;exact hK.out _ _ hg rfl (fun _ _ h => h)
         case e5 =>
          intro a w' hoff hg hdep K hK;obtain ⟨_, e4, rfl⟩ := hdep 4 _ 107 (by kernel_rfl) rfl rfl;obtain ⟨_, e1, rfl⟩ := hdep 1 _ 104 (by kernel_rfl) rfl rfl;rw [if_pos (by simp [Region.wanted, yielded, e1])];have q0 := (hg.cell (p := ⟨xb, xo + r * 3, none⟩) (cell_lt x0)).trans x0;have q1 := (hg.cell (p := ⟨xb, xo + r * 3 + 1, none⟩) (cell_lt x1)).trans x1;have q2 := (hg.cell (p := ⟨xb, xo + r * 3 + 2, none⟩) (cell_lt x2)).trans x2;go_simp;exact hK.out _ _ hg rfl (fun _ _ h => h)
         case e6 =>
          intro a w' hoff hg hdep K hK;have h8 := off_at hoff 8 (v := .slice (some ⟨zb, zo, none⟩) L.length lc) (by kernel_rfl) rfl;obtain ⟨_, e1, rfl⟩ := hdep 1 _ 104 (by kernel_rfl) rfl rfl;rw [if_pos (by simp [Region.wanted, yielded, e1])];go_simp;exact hK.out _ _ hg rfl (fun _ _ h => h)
         case e7 =>
          intro a w' hoff hg hdep K hK;have h15 := off_at hoff 15 (v := .int .i64 (q : Int)) (by kernel_rfl) rfl;obtain ⟨_, e1, rfl⟩ := hdep 1 _ 104 (by kernel_rfl) rfl rfl;rw [if_pos (by simp [Region.wanted, yielded, e1])];go_simp;exact hK.out _ _ hg rfl (fun _ _ h => h)
         case e8 =>
          intro a w' hoff hg hdep K hK;obtain ⟨_, e6, rfl⟩ := hdep 6 _ 109 (by kernel_rfl) rfl rfl;obtain ⟨_, e7, rfl⟩ := hdep 7 _ 110 (by kernel_rfl) rfl rfl;obtain ⟨_, e1, rfl⟩ := hdep 1 _ 104 (by kernel_rfl) rfl rfl;rw [if_pos (by simp [Region.wanted, yielded, e1])];go_simp;exact hK.out _ _ hg rfl (fun _ _ h => h)
         case e9 =>
          intro a w' hoff hg hdep K hK;obtain ⟨_, e8, rfl⟩ := hdep 8 _ 111 (by kernel_rfl) rfl rfl;obtain ⟨_, e1, rfl⟩ := hdep 1 _ 104 (by kernel_rfl) rfl rfl;rw [if_pos (by simp [Region.wanted, yielded, e1])];have q0 := (hg.cell (p := ⟨zb, zo + q * 3, none⟩) (cell_lt y0)).trans y0;have q1 := (hg.cell (p := ⟨zb, zo + q * 3 + 1, none⟩) (cell_lt y1)).trans y1;have q2 := (hg.cell (p := ⟨zb, zo + q * 3 + 2, none⟩) (cell_lt y2)).trans y2;go_simp;exact hK.out _ _ hg rfl (fun _ _ h => h)
         case e10 =>
          intro a w' hoff hg hdep K hK;have h9 := off_at hoff 9 (v := .int .i64 (ka : Int)) (by kernel_rfl) rfl;obtain ⟨_, e1, rfl⟩ := hdep 1 _ 104 (by kernel_rfl) rfl rfl;rw [if_pos (by simp [Region.wanted, yielded, e1])];go_simp;exact hK.out _ _ hg rfl (fun _ _ h => h)
         case e11 =>
          intro a w' hoff hg hdep K hK;obtain ⟨_, e5, rfl⟩ := hdep 5 _ 108 (by kernel_rfl) rfl rfl;obtain ⟨_, e9, rfl⟩ := hdep 9 _ 112 (by kernel_rfl) rfl rfl;obtain ⟨_, e10, rfl⟩ := hdep 10 _ 113 (by kernel_rfl) rfl rfl;obtain ⟨_, e1, rfl⟩ := hdep 1 _ 104 (by kernel_rfl) rfl rfl;rw [if_pos (by simp [Region.wanted, yielded, e1])];go_simp;refine (alike_any x y (ka : Int) (fun k => k < w4.heap.size) w' _ _ (fun k hk => Nat.lt_of_lt_of_le hk (Nat.le_trans HSZ.out hg.size)) (RepRo.on (fun _ h => h) (fun k hk => hg.block k (Nat.lt_of_lt_of_le hk HSZ.out)) HX.out) (RepRo.on (fun _ h => h) (fun k hk => hg.block k (Nat.lt_of_lt_of_le hk HSZ.out)) HY.out)).mono ?_;rintro e w6 ⟨rfl, hb⟩;rw [HV.out];exact hK.out _ _ (Below.step hg hb) rfl (fSt trivial)
         case e12 =>
          intro a w' hoff hg hdep K hK;obtain ⟨_, e1, rfl⟩ := hdep 1 _ 104 (by kernel_rfl) rfl rfl;obtain ⟨_, e11, rfl⟩ := hdep 11 _ 114 (by kernel_rfl) rfl rfl;rw [if_pos (by rfl)];go_simp;exact hK.out _ _ hg rfl (fun _ _ h => h)
         case elast =>
          intro a w' hoff hg hf;obtain ⟨_, e0, rfl⟩ := hf 0 _ 103 (by decide) rfl rfl;obtain ⟨_, e1, rfl⟩ := hf 1 _ 104 (by decide) rfl rfl;obtain ⟨_, e2, rfl⟩ := hf 2 _ 105 (by decide) rfl rfl;obtain ⟨_, e3, rfl⟩ := hf 3 _ 106 (by decide) rfl rfl;obtain ⟨_, e4, rfl⟩ := hf 4 _ 107 (by decide) rfl rfl;obtain ⟨_, e5, rfl⟩ := hf 5 _ 108 (by decide) rfl rfl;obtain ⟨_, e6, rfl⟩ := hf 6 _ 109 (by decide) rfl rfl;obtain ⟨_, e7, rfl⟩ := hf 7 _ 110 (by decide) rfl rfl;obtain ⟨_, e8, rfl⟩ := hf 8 _ 111 (by decide) rfl rfl;obtain ⟨_, e9, rfl⟩ := hf 9 _ 112 (by decide) rfl rfl;obtain ⟨_, e10, rfl⟩ := hf 10 _ 113 (by decide) rfl rfl;obtain ⟨_, e11, rfl⟩ := hf 11 _ 114 (by decide) rfl rfl;obtain ⟨_, e12, rfl⟩ := hf 12 _ 115 (by decide) rfl rfl;rw [if_pos (by rfl)];rw [hoff.sets [(103, .bool false), (104, .bool false), (105, .slice (some ⟨xb, xo, none⟩) G.length gc), (106, .int .i64 (r : Int)), (107, .pointer (some ⟨xb, xo + r * 3, none⟩)), (108, .agg #[.string x.name, .slice xf x.args.length xc, .int .i64 x.stamp]), (109, .slice (some ⟨zb, zo, none⟩) L.length lc), (110, .int .i64 (q : Int)), (111, .pointer (some ⟨zb, zo + q * 3, none⟩)), (112, .agg #[.string y.name, .slice yf y.args.length yc, .int .i64 y.stamp]), (113, .int .i64 (ka : Int)), (114, .bool true), (115, .bool true)] (by kernel_rfl) (by intro p hp; simp only [List.mem_cons, List.not_mem_nil, or_false] at hp; rcases hp with rfl | rfl | rfl | rfl | rfl | rfl | rfl | rfl | rfl | rfl | rfl | rfl | rfl <;> assumption)];clear hoff hf e0 e1 e2 e3 e4 e5 e6 e7 e8 e9 e10 e11 e12;simp only [List.foldl_cons, List.foldl_nil, List.setIfInBounds_toArray, List.set_cons_zero, List.set_cons_succ]
          go_simp;have HBN := Lib.hid (Below.step hbr.out hg);clear hg hbr x0 x1 x2 y0 y1 y2;go_wp2_with fail
          go_roundw
          case rel => exact ⟨r + 1, HLR.out, by go_num, by rw [any_snoc _ _ HLR.out, ← Bool.or_assoc, HC.out, HV2.out] <;> rfl, HBN.out⟩
          case measure => have := HLR.out; simp [intOf]; omega
       ·go_upto_region 28 with fail
        refine wp_region_factsL (by rfl) 119 (by rfl) (by kernel_rfl) (FA [.e (.bool true), .e (.bool true), .e undef, .e undef, .e undef, .e undef, .e undef, .e undef, .e undef, .e undef, .e undef, .e undef, .e (.bool true)]) (fun w' => Below wr.heap.size wr w') (Below.drew (Below.refl _ _)) ⟨?f0, ?f1, ?f2, ?f3, ?f4, ?f5, ?f6, ?f7, ?f8, ?f9, ?f10, ?f11, ?f12, trivial⟩ (by rfl) ?flast (by decide)
        case f0 =>
         intro a w' hoff hg hdep K hK;have h16 := off_at hoff 16 (v := .bool true) (by kernel_rfl) rfl;rw [if_pos (by rfl)];go_simp;exact hK.out _ _ hg rfl (fun _ _ h => h)
        case f1 =>
         intro a w' hoff hg hdep K hK;obtain ⟨_, e0, rfl⟩ := hdep 0 _ 103 (by kernel_rfl) rfl rfl;rw [if_pos (by rfl)];go_simp;exact hK.out _ _ hg rfl (fun _ _ h => h)
        case f2 =>
         intro a w' hoff hg hdep K hK;have h10 := off_at hoff 10 (v := .slice (some ⟨xb, xo, none⟩) G.length gc) (by kernel_rfl) rfl;obtain ⟨_, e1, rfl⟩ := hdep 1 _ 104 (by kernel_rfl) rfl rfl;rw [if_neg (by simp [Region.wanted, yielded, e1])];exact hK.out _ _ hg rfl (fun _ _ h => h)
        case f3 =>
         intro a w' hoff hg hdep K hK;have h17 := off_at hoff 17 (v := .int .i64 (r : Int)) (by kernel_rfl) rfl;obtain ⟨_, e1, rfl⟩ := hdep 1 _ 104 (by kernel_rfl) rfl rfl;rw [if_neg (by simp [Region.wanted, yielded, e1])];exact hK.out _ _ hg rfl (fun _ _ h => h)
        case f4 =>
         intro a w' hoff hg hdep K hK;obtain ⟨v2, e2, f2⟩ := hdep 2 _ 105 (by kernel_rfl) rfl rfl;obtain rfl : undef = v2 := Eq.symm f2;obtain ⟨v3, e3, f3⟩ := hdep 3 _ 106 (by kernel_rfl) rfl rfl;obtain rfl : undef = v3 := Eq.symm f3;obtain ⟨_, e1, rfl⟩ := hdep 1 _ 104 (by kernel_rfl) rfl rfl;rw [if_neg (by simp [Region.wanted, yielded, e1])];exact hK.out _ _ hg rfl (fun _ _ h => h)
        case f5 =>
         intro a w' hoff hg hdep K hK;obtain ⟨v4, e4, f4⟩ := hdep 4 _ 107 (by kernel_rfl) rfl rfl;obtain rfl : undef = v4 := Eq.symm f4;obtain ⟨_, e1, rfl⟩ := hdep 1 _ 104 (by kernel_rfl) rfl rfl;rw [if_neg (by simp [Region.wanted, yielded, e1])];exact hK.out _ _ hg rfl (fun _ _ h => h)
        case f6 =>
         intro a w' hoff hg hdep K hK;have h8 := off_at hoff 8 (v := .slice (some ⟨zb, zo, none⟩) L.length lc) (by kernel_rfl) rfl;obtain ⟨_, e1, rfl⟩ := hdep 1 _ 104 (by kernel_rfl) rfl rfl;rw [if_neg (by simp [Region.wanted, yielded, e1])];exact hK.out _ _ hg rfl (fun _ _ h => h)
        case f7 =>
         intro a w' hoff hg hdep K hK;have h15 := off_at hoff 15 (v := .int .i64 (q : Int)) (by kernel_rfl) rfl;obtain ⟨_, e1, rfl⟩ := hdep 1 _ 104 (by kernel_rfl) rfl rfl;rw [if_neg (by simp [Region.wanted, yielded, e1])];exact hK.out _ _ hg rfl (fun _ _ h => h)
        case f8 =>
         intro a w' hoff hg hdep K hK;obtain ⟨v6, e6, f6⟩ := hdep 6 _ 109 (by kernel_rfl) rfl rfl;obtain rfl : undef = v6 := Eq.symm f6;obtain ⟨v7, e7, f7⟩ := hdep 7 _ 110 (by kernel_rfl) rfl rfl;obtain rfl : undef = v7 := Eq.symm f7;obtain ⟨_, e1, rfl⟩ := hdep 1 _ 104 (by kernel_rfl) rfl rfl;rw [if_neg (by simp [Region.wanted, yielded, e1])];exact hK.out _ _ hg rfl (fun _ _ h => h)
        case f9 =>
         intro a w' hoff hg hdep K hK;obtain ⟨v8, e8, f8⟩ := hdep 8 _ 111 (by kernel_rfl) rfl rfl;obtain rfl : undef = v8 := Eq.symm f8;obtain ⟨_, e1, rfl⟩ := hdep 1 _ 104 (by kernel_rfl) rfl rfl;rw [if_neg (by simp [Region.wanted, yielded, e1])];exact hK.out _ _ hg rfl (fun _ _ h => h)
        case f10 =>
         intro a w' hoff hg hdep K hK;have h9 := off_at hoff 9 (v := .int .i64 (ka : Int)) (by kernel_rfl) rfl;obtain ⟨_, e1, rfl⟩ := hdep 1 _ 104 (by kernel_rfl) rfl rfl;rw [if_neg (by simp [Region.wanted, yielded, e1])];exact hK.out _ _ hg rfl (fun _ _ h => h)
        case f11 =>
         intro a w' hoff hg hdep K hK;obtain ⟨v5, e5, f5⟩ := hdep 5 _ 108 (by kernel_rfl) rfl rfl;obtain rfl : undef = v5 := Eq.symm f5;obtain ⟨v9, e9, f9⟩ := hdep 9 _ 112 (by kernel_rfl) rfl rfl;obtain rfl : undef = v9 := Eq.symm f9;obtain ⟨v10, e10, f10⟩ := hdep 10 _ 113 (by kernel_rfl) rfl rfl;obtain rfl : undef = v10 := Eq.symm f10;obtain ⟨_, e1, rfl⟩ := hdep 1 _ 104 (by kernel_rfl) rfl rfl;rw [if_neg (by simp [Region.wanted, yielded, e1])];exact hK.out _ _ hg rfl (fun _ _ h => h)
        case f12 =>
         intro a w' hoff hg hdep K hK;obtain ⟨_, e1, rfl⟩ := hdep 1 _ 104 (by kernel_rfl) rfl rfl;obtain ⟨v11, e11, f11⟩ := hdep 11 _ 114 (by kernel_rfl) rfl rfl;obtain rfl : undef = v11 := Eq.symm f11;rw [if_pos (by rfl)];go_simp;exact hK.out _ _ hg rfl (fun _ _ h => h)
        case flast =>
         intro a w' hoff hg hf;obtain ⟨_, e0, rfl⟩ := hf 0 _ 103 (by decide) rfl rfl;obtain ⟨_, e1, rfl⟩ := hf 1 _ 104 (by decide) rfl rfl;obtain ⟨v2, e2, f2⟩ := hf 2 _ 105 (by decide) rfl rfl;obtain rfl : undef = v2 := Eq.symm f2;obtain ⟨v3, e3, f3⟩ := hf 3 _ 106 (by decide) rfl rfl;obtain rfl : undef = v3 := Eq.symm f3;obtain ⟨v4, e4, f4⟩ := hf 4 _ 107 (by decide) rfl rfl;obtain rfl : undef = v4 := Eq.symm f4;obtain ⟨v5, e5, f5⟩ := hf 5 _ 108 (by decide) rfl rfl;obtain rfl : undef = v5 := Eq.symm f5;obtain ⟨v6, e6, f6⟩ := hf 6 _ 109 (by decide) rfl rfl;obtain rfl : undef = v6 := Eq.symm f6;obtain ⟨v7, e7, f7⟩ := hf 7 _ 110 (by decide) rfl rfl;obtain rfl : undef = v7 := Eq.symm f7;obtain ⟨v8, e8, f8⟩ := hf 8 _ 111 (by decide) rfl rfl;obtain rfl : undef = v8 := Eq.symm f8;obtain ⟨v9, e9, f9⟩ := hf 9 _ 112 (by decide) rfl rfl;obtain rfl : undef = v9 := Eq.symm f9;obtain ⟨v10, e10, f10⟩ := hf 10 _ 113 (by decide) rfl rfl;obtain rfl : undef = v10 := Eq.symm f10;obtain ⟨v11, e11, f11⟩ := hf 11 _ 114 (by decide) rfl rfl;obtain rfl : undef = v11 := Eq.symm f11;obtain ⟨_, e12, rfl⟩ := hf 12 _ 115 (by decide) rfl rfl;rw [if_pos (by rfl)];rw [hoff.sets [(103, .bool true), (104, .bool true), (105, undef), (106, undef), (107, undef), (108, undef), (109, undef), (110, undef), (111, undef), (112, undef), (113, undef), (114, undef), (115, .bool true)] (by kernel_rfl) (by intro p hp; simp only [List.mem_cons, List.not_mem_nil, or_false] at hp; rcases hp with rfl | rfl | rfl | rfl | rfl | rfl | rfl | rfl | rfl | rfl | rfl | rfl | rfl <;> assumption)];clear hoff hf e0 e1 e2 e3 e4 e5 e6 e7 e8 e9 e10 e11 e12;simp only [List.foldl_cons, List.foldl_nil, List.setIfInBounds_toArray, List.set_cons_zero, List.set_cons_succ]
         go_simp;have HBN := Lib.hid (Below.step hbr.out hg);clear hg hbr x0 x1 x2 y0 y1 y2;go_wp2_with fail
         go_roundw
         case rel => exact ⟨r + 1, HLR.out, by go_num, by rw [any_snoc _ _ HLR.out, ← Bool.or_assoc, HC.out]; rfl, HBN.out⟩
         case measure => have := HLR.out; simp [intOf]; omega
      ·have hrl : r = G.length := by omega
       have HT : Hid ((b || (G.take r).any fun x => alikeB (ka : Int) x y) = true) := by
        show _ = _
        rw [hrl, List.take_length, Bool.or_eq_true]
        by_cases hlen : y.args.length ≤ ka
        ·exact .inl (by rw [← HBD.out]; exact decide_eq_true hlen)
        ·refine .inr (List.any_eq_true.2 ?_)
         obtain ⟨g, hg, ha⟩ := group_there HR.out HGI.out y (by rw [← HYY.out]; exact List.getElem_mem HLQ.out) (by omega);exact ⟨g, hg, alikeB_yes ha⟩
       rw [HT.out];have k1 : decide ((r : Int) < (G.length : Int)) = false := decide_eq_false (by omega);have k2 : decide (r < G.length) = false := decide_eq_false (by omega);clear hr hlr hrl HT;have hlq2 : (q : Int) < (L.length : Int) := by have := HLQ.out; omega
       go_wp2_with fail
       go_roundw
       case rel => exact ⟨q + 1, HLQ.out, by go_num, hbr.out⟩
       case measure => have := HLQ.out; simp [intOf]; omega
    ·have hql : q = L.length := by omega
     have k1 : decide ((q : Int) < (L.length : Int)) = false := decide_eq_false (by omega);have k2 : decide (q < L.length) = false := decide_eq_false (by omega);clear hq hlq hql;go_wp2_with fail
     go_ret
     exact ⟨rfl, Below.step B.out hbq.out⟩
end Go.Proofs.Ytpnaegohjbaggaa.groupSets
namespace Go.Proofs.Ytpnaegohjbaggaa.groupSets
open Go.ChangeShapes Go.WideShapes Go.ChangeAt Go.RowKit
open Go.ChangeMaps (open_string)
set_option maxRecDepth 100000 in
theorem contract (H : Type) (enc : TypeId × Value → H) (W : World) (base : Nat) (args : Array Value) (ds gs : List (DataW H)) (before : List MemPlace)
  (hval : ∀ (j : Nat) t v, Try.f4.params[j]? = some t → args[j]? = some v → Value.okWide Try.prog W .any base t v)
  (hW : DataW.Whole enc Try.prog Try.f4.params.toList Rows.groupSetsSpec.vars false W args.toList ds gs before)
  (hz : (DataW.weightsEach Try.prog (Try.f4.params.toList ++ []) (ds ++ gs)).all (· ≤ reachBytes) = true) (_hL : laidMet Try.prog Rows.groupSetsRow.laid W) :
  Calls Try.prog 4 args W fun e W' => ∃ v, e = .returned v ∧ Rows.groupSetsSpec.post enc Try.prog Try.f4 false true false false W args v W' := by
 have hW' := hW;obtain ⟨p, q, hA0, hV, rfl, hfz, hnd⟩ := hW;have hA : DataW.TrodAll enc Try.prog W 0 (fun _ => true) true Try.f4.params.toList args.toList ds p := hA0;clear hA0;rw [Try.params4] at hA hval hz;obtain ⟨v0, vs0, d0, ds0, p0, q0, hargs, rfl, rfl, h0, r0⟩ := trodAll_cons hA;obtain ⟨v1, vs1, d1, ds1, p1, q1, rfl, rfl, rfl, h1, r1⟩ := trodAll_cons r0;obtain ⟨v2, vs2, d2, ds2, p2, q2, rfl, rfl, rfl, h2, r2⟩ := trodAll_cons r1;obtain ⟨rfl, rfl, rfl⟩ := trodAll_nil r2;obtain rfl : args = #[v0, v1, v2] := by cases args; simp_all
 obtain ⟨rfl, rfl⟩ := trodVars_none hV;have z0 : (DataW.weightsEach Try.prog [39, 3, 3] [d0, d1, d2]).all (· ≤ reachBytes) = true := by simpa using hz
 obtain ⟨f0, z1⟩ := fits_cons z0;obtain ⟨f1, z2⟩ := fits_cons z1;obtain ⟨f2, z3⟩ := fits_cons z2;obtain ⟨x0, g0⟩ := open_rws (hval 0 39 v0 rfl rfl) h0 f0;obtain ⟨x1, rfl, rfl, rfl, g1⟩ := open_int Try.underlying3 (hval 1 3 v1 rfl rfl) h1;obtain ⟨x2, rfl, rfl, rfl, g2⟩ := open_int Try.underlying3 (hval 2 3 v2 rfl rfl) h2
 -- USE: walk DATA W CELLS htab FACTS
 refine (walk x0 x1 x2 W v0 g0 (i64_wf g1) (i64_wf g2)).mono fun e W' ⟨he, hb⟩ => ⟨_, he, law_post rfl (by kernel_rfl) (fun t ht => ?_) hW' rfl hb⟩
 rw [Try.params4] at ht;have ht' : t = 39 ∨ t = 3 ∨ t = 3 := by simpa using ht
 rcases ht' with rfl | rfl | rfl <;> exact ⟨by kernel_rfl, of_decide_eq_true (by kernel_rfl)⟩
set_option maxRecDepth 100000 in
theorem laid_met (os : Os) : laidMet Try.prog Rows.groupSetsRow.laid ((plainWorld os).forCall (fun _ _ => 0) ⟨#[], #[.slice none 0 0, .int .i64 0, .int .i64 0], []⟩).memory :=
 laidMet_of_run' 8 (by kernel_rfl) (by kernel_rfl)
set_option maxRecDepth 100000 in
theorem reads (os : Os) {H : Type} (enc : TypeId × Value → H) : ∃ places, DataW.whole enc Try.prog ((plainWorld os).forCall (fun _ _ => 0) ⟨#[], #[.slice none 0 0, .int .i64 0, .int .i64 0], []⟩).memory Try.f4.params.toList Rows.groupSetsSpec.vars false (#[.slice none 0 0, .int .i64 0, .int .i64 0] : Array Value).toList 8 = some ([.nil, .lit (.int .i64 0), .lit (.int .i64 0)], [], places) :=
 ⟨[], by kernel_rfl⟩
set_option maxRecDepth 100000 in
theorem lifted (os : Os) (started : os.Started) (H : Type) (enc : TypeId × Value → H) (F : Stop.Interp) :
  ReturnsInHanded {} Try.checked os 4 .any ((OpenSpec.ofChange Rows.groupSetsSpec).preRow enc Try.prog Try.f4 Rows.groupSetsRow.domain false Rows.groupSetsRow.laid) (((OpenSpec.ofChange Rows.groupSetsSpec).at F).post enc Try.prog Try.f4 false true false false) := by
 obtain ⟨places, hx⟩ := reads os enc
 refine returnsInHanded_of_row (C := Try.checked) (s := OpenSpec.ofChange Rows.groupSetsSpec) own started (by kernel_rfl) Try.func4
  (witness_row_at (enc := enc) (C := Try.checked) false (plainWorld os) #[.slice none 0 0, .int .i64 0, .int .i64 0] rfl (by kernel_rfl) (by kernel_rfl) (by kernel_rfl)
   (OpenSpec.preRow_of_cond 8 hx (by kernel_rfl) (fun k hk => by cases hk) (by kernel_rfl) (laid_met os))) ?_
 intro W base args ds gs before hval hW _ _ hz hL _ _;exact contract H enc W base args ds gs before hval hW hz hL
set_option maxRecDepth 100000 in
theorem said : Rows.GroupSetsSaid :=
 OpenClaim.holds_of_cond 4 Try.f4 rfl rfl rfl rfl rfl rfl rfl ⟨rfl, rfl, rfl, rfl, rfl⟩ rfl rfl rfl rfl rfl (by kernel_rfl) Try.func4 (by kernel_rfl)
  (of_decide_eq_true (by kernel_rfl)) (by unfold Func.isWrapper; first | (rw [if_pos (by decide +kernel)]; kernel_rfl) | (rw [if_neg (by decide +kernel)]; exact ⟨rfl, rfl⟩))
  (fun os started H enc _ F => by rw [OpenClaim.pre_eq_preRow]; exact lifted os started H enc F)
theorem holds : Rows.GroupSetsSaid := said
#print axioms holds
end Go.Proofs.Ytpnaegohjbaggaa.groupSets
