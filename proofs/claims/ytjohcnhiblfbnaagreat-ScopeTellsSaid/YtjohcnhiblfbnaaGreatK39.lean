/-
  FitArgs, FitAt
-/
import Derived.Test.YtjohcnhiblfbnaaGreatK38
namespace Go.Proofs.YtjohcnhiblfbnaaGreat
open Go.RowKit
set_option maxRecDepth 100000 in
set_option maxHeartbeats 2000000 in
theorem fitArgs_any (l : List Tm) (S : Nat → Prop) (w : World) (a : Value) (hS : ∀ k, S k → k < w.heap.size) (hl : RepMs S w l a) :
  Calls Tryz.prog 33 #[a] w fun e w' => ∃ v, e = .returned v ∧ MineK kdTm w' w.heap.size (fitArgs l) v ∧ Below w.heap.size w w' := by
 have HS := Lib.hid hS; have HL := Lib.hid hl
 obtain ⟨ga, gc, rfl⟩ := SlG.form hl
 by_cases h0 : l = []
 ·subst h0
  clear hl hS;have HH : Hid (fitHead [] = tmS) := rfl;go_enter Tryz.func33, Tryz.ntmps33
  go_wp2_with fail
  have n9 := alloc_new' w (.cells #[.int .i64 1, .string ⟨#[83]⟩, .int .i64 0, .int .i64 0, .string ⟨#[]⟩, .slice none 0 0, .slice none 0 0] 34);have b9 := below_alloc w (.cells #[.int .i64 1, .string ⟨#[83]⟩, .int .i64 0, .int .i64 0, .string ⟨#[]⟩, .slice none 0 0, .slice none 0 0] 34);generalize w.alloc (.cells #[.int .i64 1, .string ⟨#[83]⟩, .int .i64 0, .int .i64 0, .string ⟨#[]⟩, .slice none 0 0, .slice none 0 0] 34) = w9 at *;have HM9 : Hid (MineK kdTm w9 w.heap.size [fitHead []] (.slice (some ⟨w.heap.size, 0, none⟩) 1 1)) := by rw [HH.out]; exact mine_one n9 (Nat.le_refl _) (tmS_rep _ _)
  have HB9 := Lib.hid b9;clear n9 b9;go_wp2_with fail
  go_loopw [3, 4] (fun lv iv wr => lv = .slice (some ⟨w.heap.size, 0, none⟩) 1 1 ∧ iv = .int .i64 1 ∧ wr = w9) (fun _ iv _ => 0)
  case atStart => exact ⟨rfl, rfl, rfl⟩
  case round =>
   obtain ⟨rfl, rfl, rfl⟩ := hrel;go_wp2_with fail
   go_ret
   exact ⟨_, rfl, HM9.out, HB9.out⟩
 have hpos : 0 < l.length := List.length_pos_iff.2 h0;obtain ⟨-, -, lb, lo, fa1, fc1, ga1, gc1, hga, hSb, k0, k1, k2, k3, k4, k5, k6, gy⟩ := RepMs.at HL.out 0 hpos;have hpos2 : (0 : Int) < (l.length : Int) := by omega
 obtain rfl := hga;have HLB : Hid (lb < w.heap.size) := HS.out lb hSb;have hbd := RepM.bounds gy;have HBD := Lib.hid hbd
 have hfh : fitHead l = if pickZ l[0].kind 4 = 1 then .mk 2 ⟨#[]⟩ (.mk 3 0 (relOf l[0].name) []) [] else tmS := by
  cases l with
  | nil => exact absurd rfl h0
  | cons t l => rfl
 have Q0 := Lib.hid k0; have Q1 := Lib.hid k1
 simp only [Nat.zero_mul, Nat.add_zero] at Q0 Q1
 clear k0 k1 k2 k3 k4 k5 k6 gy hbd hSb hl hS;generalize l[0] = t at *
 by_cases hp : pickZ t.kind 4 = 1
 ·have hp' : (pickZ t.kind 4 == 1) = true := by simp [hp]
  rw [if_pos hp] at hfh;have HH := Lib.hid hfh; have HP := Lib.hid hp
  clear hfh hp hp';go_enter Tryz.func33, Tryz.ntmps33
  have q0 := ((below_alloc w (.cells #[.int .i64 1, .string ⟨#[83]⟩, .int .i64 0, .int .i64 0, .string ⟨#[]⟩, .slice none 0 0, .slice none 0 0] 34)).cell (p := ⟨lb, lo, none⟩) HLB.out).trans Q0.out;go_wp2_with fail
  have n1 := alloc_new' w (.cells #[.int .i64 1, .string ⟨#[83]⟩, .int .i64 0, .int .i64 0, .string ⟨#[]⟩, .slice none 0 0, .slice none 0 0] 34);have b1 := below_alloc w (.cells #[.int .i64 1, .string ⟨#[83]⟩, .int .i64 0, .int .i64 0, .string ⟨#[]⟩, .slice none 0 0, .slice none 0 0] 34);generalize w.alloc (.cells #[.int .i64 1, .string ⟨#[83]⟩, .int .i64 0, .int .i64 0, .string ⟨#[]⟩, .slice none 0 0, .slice none 0 0] 34) = w1 at *;refine (pick4_any t.kind 4 _ HBD.out.1 (by omega) (by omega)).mono ?_;rintro e w' ⟨rfl, rfl⟩;rw [HP.out];have q1 := (b1.cell (p := ⟨lb, lo + 1, none⟩) HLB.out).trans Q1.out;go_wp2_with fail
  refine (Relation_any t.name _ HBD.out.2).mono ?_;rintro e w2 ⟨rfl, hb⟩;have R2 : Hid (BoxM w2 w.heap.size (.int .i64 1) (.string ⟨#[83]⟩) (.int .i64 0) (.int .i64 0) (.string ⟨#[]⟩) (.slice none 0 0) (.slice none 0 0)) := BoxM.on n1 hb;have B2 := Lib.hid (Below.step b1 hb);clear q0 q1 n1 b1 hb;obtain ⟨r0, r1, r2, r3, r4, r5, r6⟩ := R2.out.cells;have z0 := frozen7 R2.out 0; have z1 := frozen7 R2.out 1; have z2 := frozen7 R2.out 2; have z3 := frozen7 R2.out 3; have z4 := frozen7 R2.out 4; have z5 := frozen7 R2.out 5; have z6 := frozen7 R2.out 6
  go_wp2_with fail
  have HM9 : Hid (MineK kdTm (set7 w2 w.heap.size (.int .i64 2) (.string ⟨#[]⟩) (.int .i64 3) (.int .i64 0) (.string (relOf t.name)) (.slice none 0 0) (.slice none 0 0)) w.heap.size [fitHead l] (.slice (some ⟨w.heap.size, 0, none⟩) 1 1)) := by
   rw [HH.out]; exact mine_one (set7_box R2.out _ _ _ _ _ _ _) (Nat.le_refl _) (addr_rep _ _ _)
  have HB9 := Lib.hid (set7_below (b := w.heap.size) B2.out (Nat.le_refl _) (.int .i64 2) (.string ⟨#[]⟩) (.int .i64 3) (.int .i64 0) (.string (relOf t.name)) (.slice none 0 0) (.slice none 0 0));unfold set7 at HM9 HB9;clear r0 r1 r2 r3 r4 r5 r6 z0 z1 z2 z3 z4 z5 z6;clear R2 B2;generalize (((((((w2.setCell ⟨w.heap.size, 0, none⟩ (.int .i64 2)).setCell ⟨w.heap.size, 1, none⟩ (.string ⟨#[]⟩)).setCell ⟨w.heap.size, 2, none⟩ (.int .i64 3)).setCell ⟨w.heap.size, 3, none⟩ (.int .i64 0)).setCell ⟨w.heap.size, 4, none⟩ (.string (relOf t.name))).setCell ⟨w.heap.size, 5, none⟩ (.slice none 0 0)).setCell ⟨w.heap.size, 6, none⟩ (.slice none 0 0)) = w9 at *;go_loopw [3, 4] (fun lv iv wr => ∃ k : Nat, 1 ≤ k ∧ k ≤ 8 ∧ (k = 1 ∨ k ≤ l.length) ∧ iv = .int .i64 k ∧ MineK kdTm wr w.heap.size (argsTo l k) lv ∧ Below w.heap.size w wr) (fun _ iv _ => 8 - (intOf iv).toNat)
  case atStart => exact ⟨1, Nat.le_refl _, by omega, .inl rfl, rfl, by rw [argsTo_one]; exact HM9.out, HB9.out⟩
  case round =>
   obtain ⟨k, hk1, hk8, hkl, rfl, hmine, hbel⟩ := hrel;have HO := Lib.hid hmine; have HBEL := Lib.hid hbel
   obtain ⟨la, lc, rfl⟩ := OwnK.form hmine;clear hmine
   by_cases hl : k < l.length
   ·by_cases h8 : k < 8
    ·have hA := (RepMs.on (fun _ h => h) (fun j hj => hbel.block j (HS.out j hj)) HL.out : RepMs S wr l (.slice _ l.length gc))
     obtain ⟨-, hcap2, lb, lo, fa2, fc2, ga2, gc2, hga2, hSb, g0, g1, g2, g3, g4, g5, g6, g⟩ := RepMs.at hA k hl
     cases hga2
     have G := Lib.hid g;have HSR := Lib.hid (fun j (hj : S j) => Nat.lt_of_lt_of_le (HS.out j hj) hbel.size);have HTK := Lib.hid (argsTo_succ l k hk1 hl);have HLN := Lib.hid (argsTo_len l k (by omega));clear hA g hbel hSb;generalize l[k] = y at *;go_wp2_with fail
     refine (term8_any y S wr _ _ _ _ _ _ _ HSR.out G.out).mono ?_;rintro e w5 ⟨c0, c1, c2, c3, c4, c5, c6, rfl, hrep, hb⟩;obtain ⟨a6, n6, w6, hrun, hm6, hb6, -⟩ := mk_append (K := kdTm) (y := fitTm 8 y) (c := at7v c0 c1 c2 c3 c4 c5 c6) (cs := #[c0, c1, c2, c3, c4, c5, c6]) HO.out HBEL.out.size (by have := HLN.out; omega) hb rfl (fun j hj => match j, hj with | 0, _ => rfl | 1, _ => rfl | 2, _ => rfl | 3, _ => rfl | 4, _ => rfl | 5, _ => rfl | 6, _ => rfl) hrep 32;have HRUN := Lib.hid hrun; have HM6 := Lib.hid hm6; have HB6 := Lib.hid (HBEL.out.trans hb6)
     clear hrun hm6 hb6 hb hrep g0 g1 g2 g3 g4 g5 g6;go_wp2_with (at_builtin; refine wpList_append_by rfl _ _ _ rfl rfl rfl HRUN.out ?_)
     go_roundw
     case rel => exact ⟨k + 1, by omega, by omega, .inr (by omega), by go_num, by rw [HTK.out]; exact HM6.out, HB6.out⟩
     case measure => simp [intOf]; omega
    ·have hke : k = 8 := by omega
     have HT := Lib.hid (argsTo_end l k (.inl hke));subst hke;go_wp2_with fail
     go_ret
     exact ⟨_, rfl, by rw [← HT.out]; exact HO.out, HBEL.out⟩
   ·have HT := Lib.hid (argsTo_end l k (.inr ⟨by omega, hk8⟩))
    go_wp2_with fail
    go_ret
    exact ⟨_, rfl, by rw [← HT.out]; exact HO.out, HBEL.out⟩
 ·have hp' : (pickZ t.kind 4 == 1) = false := by simp [hp]
  rw [if_neg hp] at hfh;have HH := Lib.hid hfh;clear hfh hp;go_enter Tryz.func33, Tryz.ntmps33
  have q0 := ((below_alloc w (.cells #[.int .i64 1, .string ⟨#[83]⟩, .int .i64 0, .int .i64 0, .string ⟨#[]⟩, .slice none 0 0, .slice none 0 0] 34)).cell (p := ⟨lb, lo, none⟩) HLB.out).trans Q0.out;go_wp2_with fail
  have n1 := alloc_new' w (.cells #[.int .i64 1, .string ⟨#[83]⟩, .int .i64 0, .int .i64 0, .string ⟨#[]⟩, .slice none 0 0, .slice none 0 0] 34);have b1 := below_alloc w (.cells #[.int .i64 1, .string ⟨#[83]⟩, .int .i64 0, .int .i64 0, .string ⟨#[]⟩, .slice none 0 0, .slice none 0 0] 34);generalize w.alloc (.cells #[.int .i64 1, .string ⟨#[83]⟩, .int .i64 0, .int .i64 0, .string ⟨#[]⟩, .slice none 0 0, .slice none 0 0] 34) = w1 at *;refine (pick4_any t.kind 4 _ HBD.out.1 (by omega) (by omega)).mono ?_;rintro e w' ⟨rfl, rfl⟩;have HM9 : Hid (MineK kdTm w1 w.heap.size [fitHead l] (.slice (some ⟨w.heap.size, 0, none⟩) 1 1)) := by rw [HH.out]; exact mine_one n1 (Nat.le_refl _) (tmS_rep _ _)
  have HB9 := Lib.hid b1;clear n1 b1 q0;generalize w1 = w9 at *;go_wp2_with fail
  go_loopw [3, 4] (fun lv iv wr => ∃ k : Nat, 1 ≤ k ∧ k ≤ 8 ∧ (k = 1 ∨ k ≤ l.length) ∧ iv = .int .i64 k ∧ MineK kdTm wr w.heap.size (argsTo l k) lv ∧ Below w.heap.size w wr) (fun _ iv _ => 8 - (intOf iv).toNat)
  case atStart => exact ⟨1, Nat.le_refl _, by omega, .inl rfl, rfl, by rw [argsTo_one]; exact HM9.out, HB9.out⟩
  case round =>
   obtain ⟨k, hk1, hk8, hkl, rfl, hmine, hbel⟩ := hrel;have HO := Lib.hid hmine; have HBEL := Lib.hid hbel
   obtain ⟨la, lc, rfl⟩ := OwnK.form hmine;clear hmine
   by_cases hl : k < l.length
   ·by_cases h8 : k < 8
    ·have hA := (RepMs.on (fun _ h => h) (fun j hj => hbel.block j (HS.out j hj)) HL.out : RepMs S wr l (.slice _ l.length gc))
     obtain ⟨-, hcap2, lb, lo, fa2, fc2, ga2, gc2, hga2, hSb, g0, g1, g2, g3, g4, g5, g6, g⟩ := RepMs.at hA k hl
     cases hga2
     have G := Lib.hid g;have HSR := Lib.hid (fun j (hj : S j) => Nat.lt_of_lt_of_le (HS.out j hj) hbel.size);have HTK := Lib.hid (argsTo_succ l k hk1 hl);have HLN := Lib.hid (argsTo_len l k (by omega));clear hA g hbel hSb;generalize l[k] = y at *;go_wp2_with fail
     refine (term8_any y S wr _ _ _ _ _ _ _ HSR.out G.out).mono ?_;rintro e w5 ⟨c0, c1, c2, c3, c4, c5, c6, rfl, hrep, hb⟩;obtain ⟨a6, n6, w6, hrun, hm6, hb6, -⟩ := mk_append (K := kdTm) (y := fitTm 8 y) (c := at7v c0 c1 c2 c3 c4 c5 c6) (cs := #[c0, c1, c2, c3, c4, c5, c6]) HO.out HBEL.out.size (by have := HLN.out; omega) hb rfl (fun j hj => match j, hj with | 0, _ => rfl | 1, _ => rfl | 2, _ => rfl | 3, _ => rfl | 4, _ => rfl | 5, _ => rfl | 6, _ => rfl) hrep 32;have HRUN := Lib.hid hrun; have HM6 := Lib.hid hm6; have HB6 := Lib.hid (HBEL.out.trans hb6)
     clear hrun hm6 hb6 hb hrep g0 g1 g2 g3 g4 g5 g6;go_wp2_with (at_builtin; refine wpList_append_by rfl _ _ _ rfl rfl rfl HRUN.out ?_)
     go_roundw
     case rel => exact ⟨k + 1, by omega, by omega, .inr (by omega), by go_num, by rw [HTK.out]; exact HM6.out, HB6.out⟩
     case measure => simp [intOf]; omega
    ·have hke : k = 8 := by omega
     have HT := Lib.hid (argsTo_end l k (.inl hke));subst hke;go_wp2_with fail
     go_ret
     exact ⟨_, rfl, by rw [← HT.out]; exact HO.out, HBEL.out⟩
   ·have HT := Lib.hid (argsTo_end l k (.inr ⟨by omega, hk8⟩))
    go_wp2_with fail
    go_ret
    exact ⟨_, rfl, by rw [← HT.out]; exact HO.out, HBEL.out⟩
end Go.Proofs.YtjohcnhiblfbnaaGreat
namespace Go.Proofs.YtjohcnhiblfbnaaGreat
open Go.RowKit
set_option maxRecDepth 100000 in
set_option maxHeartbeats 600000 in
theorem termAt_any (l : List Tm) (i : Nat) (hi : i ≤ 1) (S : Nat → Prop) (w : World) (a : Value) (hS : ∀ k, S k → k < w.heap.size) (hl : RepMs S w l a) :
  Calls Tryz.prog 54 #[a, .int .i64 i] w (MadeM (fitAt l i) w) := by
 have HS := Lib.hid hS; have HL := Lib.hid hl
 obtain ⟨ga, gc, rfl⟩ := SlG.form hl;have HI := Lib.hid hi;clear hi
 by_cases h : i < l.length
 ·have HE : Hid (fitAt l i = fitTm 8 l[i]) := by show _ = _; rw [fitAt, List.getElem?_eq_getElem h]
  obtain ⟨-, hcap2, lb, lo, fa2, fc2, ga2, gc2, hga2, hSb, g0, g1, g2, g3, g4, g5, g6, g⟩ := RepMs.at HL.out i h;obtain rfl := hga2;have G := Lib.hid g;have HLB : Hid (lb < w.heap.size) := HS.out lb hSb;have hi0 : (0 : Int) ≤ (i : Int) := Int.natCast_nonneg i;have hi1 : (i : Int) < (l.length : Int) := by omega
  have hid : decide ((i : Int) < (l.length : Int)) = true := decide_eq_true hi1;clear g hSb hS hl;generalize l[i] = y at *;go_enter Tryz.func54, Tryz.ntmps54
  have x1 := boxM_new w (.int .i64 0) (.string ⟨#[]⟩) (.int .i64 0) (.int .i64 0) (.string ⟨#[]⟩) (.slice none 0 0) (.slice none 0 0);have b1 := below_alloc w (.cells #[.int .i64 0, .string ⟨#[]⟩, .int .i64 0, .int .i64 0, .string ⟨#[]⟩, .slice none 0 0, .slice none 0 0] 34);have q0 := (b1.cell (p := ⟨lb, lo + i * 7, none⟩) HLB.out).trans g0;have q1 := (b1.cell (p := ⟨lb, lo + i * 7 + 1, none⟩) HLB.out).trans g1;have q2 := (b1.cell (p := ⟨lb, lo + i * 7 + 2, none⟩) HLB.out).trans g2;have q3 := (b1.cell (p := ⟨lb, lo + i * 7 + 3, none⟩) HLB.out).trans g3;have q4 := (b1.cell (p := ⟨lb, lo + i * 7 + 4, none⟩) HLB.out).trans g4;have q5 := (b1.cell (p := ⟨lb, lo + i * 7 + 5, none⟩) HLB.out).trans g5;have q6 := (b1.cell (p := ⟨lb, lo + i * 7 + 6, none⟩) HLB.out).trans g6;have X1 := Lib.hid x1; have B1 := Lib.hid b1
  clear x1 b1 g0 g1 g2 g3 g4 g5 g6;go_wp2_with fail
  have hs1 := World.size_alloc w (.cells #[.int .i64 0, .string ⟨#[]⟩, .int .i64 0, .int .i64 0, .string ⟨#[]⟩, .slice none 0 0, .slice none 0 0] 34);generalize w.alloc (.cells #[.int .i64 0, .string ⟨#[]⟩, .int .i64 0, .int .i64 0, .string ⟨#[]⟩, .slice none 0 0, .slice none 0 0] 34) = w1 at *;refine (term8_any y S w1 _ _ _ _ _ _ _ (fun k hk => Nat.lt_of_lt_of_le (HS.out k hk) B1.out.size) (RepM.on (fun _ h => h) (fun k hk => B1.out.block k (HS.out k hk)) y G.out)).mono ?_;rintro e w2 ⟨c0, c1, c2, c3, c4, c5, c6, rfl, hrep, hb⟩;have R2 := Lib.hid (X1.out.on hb); have B2 := Lib.hid (Below.step B1.out hb)
  have hrf := hrep.form;have HR2 := Lib.hid hrep;obtain ⟨fa9, fc9, ga9, gc9, rfl, rfl, rfl, rfl, rfl, rfl, rfl⟩ := hrf;have HSZ := Lib.hid hs1;clear hrep hb q0 q1 q2 q3 q4 q5 q6 hs1;generalize fitTm 8 y = z at *;obtain ⟨r0, r1, r2, r3, r4, r5, r6⟩ := R2.out.cells;have z0 := frozen7 R2.out 0; have z1 := frozen7 R2.out 1; have z2 := frozen7 R2.out 2; have z3 := frozen7 R2.out 3; have z4 := frozen7 R2.out 4; have z5 := frozen7 R2.out 5; have z6 := frozen7 R2.out 6
  go_wp2_with fail
  refine bodyPost_ret (v := .agg #[.int .i64 z.kind, .string z.name, .int .i64 z.val.kind, .int .i64 z.val.num, .string z.val.text, .slice fa9 z.val.list.length fc9, .slice ga9 z.args.length gc9]) (by simp [results, Tryz.results54, go_sem, r0, r1, r2, r3, r4, r5, r6]) rfl ?_;rw [HE.out];refine ⟨_, _, _, _, _, _, _, rfl, RepM.on (fun k hk => ⟨by have := HSZ.out; omega, ?sz⟩) (fun k hk => ?eq) z HR2.out, set7_below (b := w.heap.size) B2.out (Nat.le_refl _) _ _ _ _ _ _ _⟩
  case sz =>
   show k < (set7 w2 w.heap.size _ _ _ _ _ _ _).heap.size
   rw [set7_size]; exact hk.2
  case eq => exact set7_other w2 w.heap.size _ _ _ _ _ _ _ _ (by have := HSZ.out; omega)
 ·have HE : Hid (fitAt l i = tmX) := by show _ = _; rw [fitAt, List.getElem?_eq_none (by omega)]
  have hid : decide ((i : Int) < (l.length : Int)) = false := decide_eq_false (by omega);clear hS hl;go_enter Tryz.func54, Tryz.ntmps54
  have x1 := boxM_new w (.int .i64 0) (.string ⟨#[]⟩) (.int .i64 0) (.int .i64 0) (.string ⟨#[]⟩) (.slice none 0 0) (.slice none 0 0);have b1 := below_alloc w (.cells #[.int .i64 0, .string ⟨#[]⟩, .int .i64 0, .int .i64 0, .string ⟨#[]⟩, .slice none 0 0, .slice none 0 0] 34);have X1 := Lib.hid x1; have B1 := Lib.hid b1
  obtain ⟨r0, r1, r2, r3, r4, r5, r6⟩ := X1.out.cells;have z0 := frozen7 X1.out 0; have z1 := frozen7 X1.out 1; have z2 := frozen7 X1.out 2; have z3 := frozen7 X1.out 3; have z4 := frozen7 X1.out 4; have z5 := frozen7 X1.out 5; have z6 := frozen7 X1.out 6
  clear x1 b1;go_wp2_with fail
  refine bodyPost_ret (v := .agg #[.int .i64 1, .string ⟨#[88]⟩, .int .i64 0, .int .i64 0, .string ⟨#[]⟩, .slice none 0 0, .slice none 0 0]) (by simp [results, Tryz.results54, go_sem]) rfl ?_;rw [HE.out];exact ⟨_, _, _, _, _, _, _, rfl, tmX_rep _ _, by first | (with_reducible exact below_alloc w _) | (with_reducible exact set7_below (b := w.heap.size) B1.out (Nat.le_refl _) _ _ _ _ _ _ _) | (refine set7_below (w := w.alloc _) (b := w.heap.size) B1.out (Nat.le_refl _) _ _ _ _ _ _ _)⟩
end Go.Proofs.YtjohcnhiblfbnaaGreat
