/-
  LawTLess, Open, LawPost
-/
import Derived.Test.YtcmlojigcgihbaaGreatKL30
import Derived.Test.YtcmlojigcgihbaaGreatKL08
import Derived.Test.YtcmlojigcgihbaaGreatKL01
import Derived.Test.YtcmlojigcgihbaaGreatKL02
import Derived.Test.YtcmlojigcgihbaaGreatRows
import Derived.BigQuiet
import Derived.ProofKit
import Derived.Lib.SmallJoins
import Derived.Deep.Slices
import Derived.OpenShut
import Derived.Deep.DeepHandedRow
namespace Go.Proofs.YtcmlojigcgihbaaGreat.strataLess
open Go.RowKit
set_option maxRecDepth 100000 in
set_option maxHeartbeats 8000000 in
theorem walk (rules : List (List Rw)) (which : Int) (W : World) (va : Value) (ga : RepRwss (fun k => k < W.heap.size) W rules va) (hw : I64 which) :
  Calls Tryz.prog 6 #[va, .int .i64 which] W fun e W' => e = .returned (.bool true) ∧ Below W.heap.size W W' := by
 have GA := Lib.hid ga; have HW := Lib.hid hw
 clear ga hw;go_enter Tryz.func6, Tryz.ntmps6
 go_wp2_with fail
 refine (awake8_any W).mono ?_;rintro e w1 ⟨rfl, hb⟩;have B1 := Lib.hid hb;clear hb;go_wp2_with fail
 refine (program_any rules [] (fun k => k < W.heap.size) w1 va _ (fun k hk => Nat.lt_of_lt_of_le hk B1.out.size) (SlG.on (fun _ h => h) (fun k hk => B1.out.block k hk) (fun x _ c h => SlG.on (fun _ h => h) (fun k hk => B1.out.block k hk) (fun _ _ _ h => h) h) GA.out) slg_nil).mono ?_;rintro e w2 ⟨v0, v1, v2, rfl, hrep, hb⟩;have HQR := Lib.hid (right_prog rules []);have HDE : Hid ((progZ rules []).decls = decls6) := rfl;have HLN : Hid ((progZ rules []).rules.length ≤ 6) := by show _ ≤ _; show (rulesTo rules _).length ≤ 6; rw [rulesTo_len]; omega
 generalize progZ rules [] = q at *;obtain ⟨d0, d1, rfl⟩ := SlG.form hrep.1;obtain ⟨f0, f1, rfl⟩ := SlG.form hrep.2.1;obtain ⟨r0, rc, rfl⟩ := SlG.form hrep.2.2;have HRP := Lib.hid hrep; have B2 := Lib.hid (Below.step B1.out hb)
 clear hrep hb B1 GA;go_upto_region 3 with fail
 have mk := boxPr_new w2 (.slice d0 q.decls.length d1) (.slice f0 q.facts.length f1) (.slice r0 q.rules.length rc);have da := below_alloc w2 (.cells #[.slice d0 q.decls.length d1, .slice f0 q.facts.length f1, .slice r0 q.rules.length rc] 28);have sa := World.size_alloc w2 (.cells #[.slice d0 q.decls.length d1, .slice f0 q.facts.length f1, .slice r0 q.rules.length rc] 28);generalize w2.alloc (.cells #[.slice d0 q.decls.length d1, .slice f0 q.facts.length f1, .slice r0 q.rules.length rc] 28) = w3 at *;have GQ : Hid (RepPr (fun k => k < w2.heap.size) w3 q (.slice d0 q.decls.length d1) (.slice f0 q.facts.length f1) (.slice r0 q.rules.length rc)) := RepPr.on (fun k hk => hk.2) (fun k hk => da.block k hk.2) HRP.out;have B3 := Lib.hid (Below.step B2.out da);obtain ⟨k8, hk8⟩ : ∃ k, w2.heap.size = k := ⟨_, rfl⟩;rw [hk8] at mk GQ sa ⊢;have X3 := Lib.hid mk;have K3 : Hid (k8 < w3.heap.size) := by show _ < _; omega
 have HWK : Hid (W.heap.size ≤ k8) := by show _ ≤ _; rw [← hk8]; exact B2.out.size
 clear mk da sa hk8 HRP B2;obtain ⟨o0, o1, o2⟩ := X3.out.cells;go_wp2_with fail
 refine (strata_any q (fun b => b < k8) w3 _ _ _ (fun b hb => Nat.lt_trans hb K3.out) GQ.out).mono ?_;intro e w4 hs;obtain ⟨La, ca, va', rfl, hla, hra, hb⟩ := strata_rep hs;have X4 := Lib.hid (X3.out.on hb); have B4 := Lib.hid (Below.step B3.out hb)
 have K4 : Hid (k8 < w4.heap.size) := Nat.lt_of_lt_of_le K3.out hb.size;have G4 : Hid (RepPr (fun k => k < k8) w4 q (.slice d0 q.decls.length d1) (.slice f0 q.facts.length f1) (.slice r0 q.rules.length rc)) := RepPr.on (fun _ h => h) (fun k hk => hb.block k (Nat.lt_trans hk K3.out)) GQ.out;have HLA : Hid (RepIs (fun b => w3.heap.size ≤ b ∧ b < w4.heap.size) w4 La va') := hla;have K34 : Hid (k8 < w3.heap.size) := K3;have HRA := Lib.hid hra;clear hs hla hra hb GQ X3 B3 K3 o0 o1 o2;obtain ⟨o0, o1, o2⟩ := X4.out.cells
 cases hce : (ca == 0) with
 | false =>
  have hce1 : (ca != 0) = true := by simpa using hce
  clear hce;go_wp2_with fail
  go_ret
  exact ⟨rfl, B4.out⟩
 | true =>
  have HCA : Hid (ca = 0) := by show _ = _; simpa using hce
  have hce1 : (ca != 0) = false := by simpa using hce
  clear hce
  by_cases hz : q.rules.length = 0
  ·have hz1 : ((q.rules.length : Int) == 0) = true := by simp [hz]
   go_wp2_with fail
   go_ret
   exact ⟨rfl, B4.out⟩
  ·have hz1 : ((q.rules.length : Int) == 0) = false := by simp; exact fun e => hz (by rw [e]; rfl)
   have hzp : 0 < q.rules.length := by omega
   go_wp2_with fail
   refine (pick8_any which (q.rules.length : Int) _ HW.out (by omega) (by have := HLN.out; omega)).mono ?_;rintro e w' ⟨rfl, rfl⟩;have hpb := pickZ_bd which (q.rules.length : Int) (by omega);obtain ⟨k, hk⟩ := Int.eq_ofNat_of_zero_le hpb.1;rw [hk] at hpb ⊢;have HKL : Hid (k < q.rules.length) := by show _ < _; omega
   clear hpb hk hz hz1 hzp hce1;go_upto_region 8 with fail
   have mk := boxPr_new w4 (.slice d0 q.decls.length d1) (.slice f0 q.facts.length f1) (.slice r0 q.rules.length rc);have da := below_alloc w4 (.cells #[.slice d0 q.decls.length d1, .slice f0 q.facts.length f1, .slice r0 q.rules.length rc] 28);have sa := World.size_alloc w4 (.cells #[.slice d0 q.decls.length d1, .slice f0 q.facts.length f1, .slice r0 q.rules.length rc] 28);generalize w4.alloc (.cells #[.slice d0 q.decls.length d1, .slice f0 q.facts.length f1, .slice r0 q.rules.length rc] 28) = w5 at *;have G5 : Hid (RepPr (fun k => k < k8) w5 q (.slice d0 q.decls.length d1) (.slice f0 q.facts.length f1) (.slice r0 q.rules.length rc)) := RepPr.on (fun _ h => h) (fun k hk => da.block k (Nat.lt_trans hk K4.out)) G4.out;have X5 := Lib.hid (X4.out.on da);have B5 := Lib.hid (Below.step B4.out da);obtain ⟨k12, hk12⟩ : ∃ k, w4.heap.size = k := ⟨_, rfl⟩;rw [hk12] at mk sa K4 ⊢;have Y5 := Lib.hid mk;have K5 : Hid (k8 ≤ w5.heap.size ∧ k8 < k12 ∧ k12 < w5.heap.size) := by show _ ∧ _ ∧ _; have := K4.out; omega
   have HD45 : Hid (∀ b, b < w4.heap.size → w5.heap[b]? = w4.heap[b]?) := fun b hb => da.block b hb
   have HS46 : Hid (w4.heap.size ≤ w5.heap.size) := da.size;have HK46 : Hid (w4.heap.size = k12) := hk12;clear o0 o1 o2;clear mk da sa hk12 G4 X4 B4 K4;obtain ⟨-, hlc, rb, ro, hra, -⟩ := SlG.at G5.out.2.2 k HKL.out;subst hra;have RR5 : Hid (RepRus (fun b => b < k8) w5 q.rules (.slice (some ⟨rb, ro, none⟩) q.rules.length rc)) := G5.out.2.2;have HK1 : Hid ((0 : Int) ≤ (k : Int)) := Int.natCast_nonneg k;have HK2 : Hid ((k : Int) ≤ (rc : Int)) := by show _ ≤ _; have := HKL.out; omega
   have HK2b : Hid ((k : Int) ≤ (q.rules.length : Int)) := by show _ ≤ _; have := HKL.out; omega
   have HK3 : Hid ((rc : Int) ≤ (rc : Int)) := Int.le_refl _;have HK5 : Hid (IntKind.i64.wrap ((k : Int) + 1) = (k : Int) + 1) := by show _ = _; have := HKL.out; have := HLN.out; rw [IntKind.wrap_i64]; omega
   have HK6 : Hid ((0 : Int) ≤ (k : Int) + 1) := by show _ ≤ _; omega
   have HK7 : Hid ((k : Int) + 1 ≤ (q.rules.length : Int)) := by show _ ≤ _; have := HKL.out; omega
   have HK8 : Hid ((q.rules.length : Int) ≤ (rc : Int)) := by show _ ≤ _; omega
   have HK9 : Hid (((k : Int) + 1).toNat = k + 1) := by show _ = _; omega
   clear hlc;refine wp_region_factsP (by rfl) 134 (by rfl) (by kernel_rfl) 10 (fun q => q == 0 || q == 1 || q == 2 || q == 3 || q == 4 || q == 5 || q == 6 || q == 7 || q == 8 || q == 9) (by kernel_rfl) (FB [.e (.pointer (some ⟨k8, 2, none⟩)), .e (.slice (some ⟨rb, ro, none⟩) q.rules.length rc), .e (.int .i64 (k : Int)), .e (.slice (some ⟨rb, ro, none⟩) k rc), .p (fun wz vz => k8 ≤ wz.heap.size ∧ OwnK kdRu (fun b => b < k8) wz w5.heap.size (q.rules.take k) vz), .e (.pointer (some ⟨k8, 2, none⟩)), .e (.slice (some ⟨rb, ro, none⟩) q.rules.length rc), .e (.int .i64 (k : Int)), .e (.int .i64 ((k : Int) + 1)), .e (.slice (if rc = k + 1 then some ⟨rb, ro, none⟩ else some ⟨rb, ro + (k + 1) * 6, none⟩) (q.rules.length - (k + 1)) (rc - (k + 1))), .t (fun wz vz => OwnK kdRu (fun b => b < k8) wz w5.heap.size (q.rules.take k ++ q.rules.drop (k + 1)) vz), .e (.pointer (some ⟨k12, 2, none⟩))]) (fun ph w' => if ph = true then Below w5.heap.size w5 w' else Below w5.heap.size w5 w') (Below.drew (Below.refl _ _)) ⟨?s0, ?s1, ?s2, ?s3, ?s4, ?s5, ?s6, ?s7, ?s8, ?s9, ?s10, ?s11, trivial⟩ (by rfl) ?last
   case s0 =>
    intro a w' hoff hg hdep K hK;replace hg : Below w5.heap.size w5 w' := hg;have h6 := off_at hoff 6 (v := .pointer (some ⟨k8, 0, none⟩)) (by kernel_rfl) rfl;rw [if_pos (by rfl)];go_simp;exact hK.out _ _ hg rfl (fun _ _ h => h)
   case s1 =>
    intro a w' hoff hg hdep K hK;replace hg : Below w5.heap.size w5 w' := hg;obtain ⟨_, e0, rfl⟩ := hdep 0 _ 40 (by kernel_rfl) rfl rfl;rw [if_pos (by rfl)];obtain ⟨o0, o1, o2⟩ := (X5.out.on hg).cells;go_simp;exact hK.out _ _ hg rfl (fun _ _ h => h)
   case s2 =>
    intro a w' hoff hg hdep K hK;replace hg : Below w5.heap.size w5 w' := hg;have h9 := off_at hoff 9 (v := .int .i64 (k : Int)) (by kernel_rfl) rfl;rw [if_pos (by rfl)];go_simp;exact hK.out _ _ hg rfl (fun _ _ h => h)
   case s3 =>
    intro a w' hoff hg hdep K hK;replace hg : Below w5.heap.size w5 w' := hg;obtain ⟨_, e1, rfl⟩ := hdep 1 _ 41 (by kernel_rfl) rfl rfl;obtain ⟨_, e2, rfl⟩ := hdep 2 _ 42 (by kernel_rfl) rfl rfl;rw [if_pos (by rfl)];have hk1 := HK1.out; have hk2 := HK2.out; have hk3 := HK3.out
    go_simp;exact hK.out _ _ hg rfl (fun _ _ h => h)
   case s4 =>
    intro a w' hoff hg hdep K hK;replace hg : Below w5.heap.size w5 w' := hg;obtain ⟨_, e3, rfl⟩ := hdep 3 _ 43 (by kernel_rfl) rfl rfl;have hrr := (SlG.on (fun _ h => h) (fun b hb => hg.block b (Nat.lt_of_lt_of_le hb K5.out.1)) (fun x _ c h => RepRu.on (fun _ h => h) (fun b hb => hg.block b (Nat.lt_of_lt_of_le hb K5.out.1)) h) RR5.out : RepRus (fun b => b < k8) w' q.rules (.slice (some ⟨rb, ro, none⟩) q.rules.length rc));obtain ⟨v', w6, hrun, hown, hgr⟩ := own_many (K := kdRu) (L := []) (m := q.rules.take k) (lv := .slice none 0 0) (OwnK.nil (fun b => b < k8) w' w5.heap.size) (SlG.front hrr (by have := HKL.out; omega)) (fun b hb => ⟨Nat.lt_of_lt_of_le (Nat.lt_of_lt_of_le hb K5.out.1) hg.size, by simp [Value.ownBlock]⟩) hg.size (by have := HLN.out; simp; omega) 26;refine step_append_by rfl (.const (.slice none 0 0)) (.tmp 43) 26 rfl (by simp [Act.eval]) (by simp [Act.eval, e3]) hrun ?_;have hb : Below w'.heap.size w' w6 := ⟨hgr.os, hgr.tape, hgr.output, hgr.size, fun j hj => hgr.block j hj (by simp [Value.ownBlock])⟩;exact hK.out _ _ (Below.step hg hb) (fun _ => ⟨Nat.le_trans K5.out.1 (Nat.le_trans hg.size hb.size), by simpa using hown⟩) (fStP ⟨fun _ h' => ⟨Nat.le_trans h'.1 hb.size, OwnK.on h'.2 (fun _ h => h) (fun j hj => hb.block j (Nat.lt_of_lt_of_le hj h'.1)) (fun j _ hj _ => hb.block j hj)⟩, trivial⟩)
   case s5 =>
    intro a w' hoff hg hdep K hK;replace hg : Below w5.heap.size w5 w' := hg;have h6 := off_at hoff 6 (v := .pointer (some ⟨k8, 0, none⟩)) (by kernel_rfl) rfl;rw [if_pos (by rfl)];go_simp;exact hK.out _ _ hg rfl (fun _ _ h => h)
   case s6 =>
    intro a w' hoff hg hdep K hK;replace hg : Below w5.heap.size w5 w' := hg;obtain ⟨_, e5, rfl⟩ := hdep 5 _ 45 (by kernel_rfl) rfl rfl;rw [if_pos (by rfl)];obtain ⟨o0, o1, o2⟩ := (X5.out.on hg).cells;go_simp;exact hK.out _ _ hg rfl (fun _ _ h => h)
   case s7 =>
    intro a w' hoff hg hdep K hK;replace hg : Below w5.heap.size w5 w' := hg;have h9 := off_at hoff 9 (v := .int .i64 (k : Int)) (by kernel_rfl) rfl;rw [if_pos (by rfl)];go_simp;exact hK.out _ _ hg rfl (fun _ _ h => h)
   case s8 =>
    intro a w' hoff hg hdep K hK;replace hg : Below w5.heap.size w5 w' := hg;obtain ⟨_, e7, rfl⟩ := hdep 7 _ 47 (by kernel_rfl) rfl rfl;rw [if_pos (by rfl)];have hk5 := HK5.out;go_simp;exact hK.out _ _ hg rfl (fun _ _ h => h)
   case s9 =>
    intro a w' hoff hg hdep K hK;replace hg : Below w5.heap.size w5 w' := hg;obtain ⟨_, e6, rfl⟩ := hdep 6 _ 46 (by kernel_rfl) rfl rfl;obtain ⟨_, e8, rfl⟩ := hdep 8 _ 48 (by kernel_rfl) rfl rfl;rw [if_pos (by rfl)];have hk1 := HK6.out; have hk2 := HK7.out; have hk3 := HK8.out; have hk4 := HK9.out
    go_simp;exact hK.out _ _ hg rfl (fun _ _ h => h)
   case s10 =>
    intro a w' hoff hg hdep K hK;replace hg : Below w5.heap.size w5 w' := hg;obtain ⟨v4, e4, f4⟩ := hdep 4 _ 44 (by kernel_rfl) rfl rfl;have g4 : k8 ≤ w'.heap.size ∧ OwnK kdRu (fun b => b < k8) w' w5.heap.size (q.rules.take k) v4 := f4 rfl;clear f4;obtain ⟨_, e9, rfl⟩ := hdep 9 _ 49 (by kernel_rfl) rfl rfl;have hrr := (SlG.on (fun _ h => h) (fun b hb => hg.block b (Nat.lt_of_lt_of_le hb K5.out.1)) (fun x _ c h => RepRu.on (fun _ h => h) (fun b hb => hg.block b (Nat.lt_of_lt_of_le hb K5.out.1)) h) RR5.out : RepRus (fun b => b < k8) w' q.rules (.slice (some ⟨rb, ro, none⟩) q.rules.length rc));have hown0 := g4.2;obtain ⟨v', w6, hrun, hown, hgr⟩ := own_many (K := kdRu) (L := q.rules.take k) (m := q.rules.drop (k + 1)) (lv := v4) hown0 (SlG.rest hrr (show k + 1 ≤ q.rules.length by have := HKL.out; omega) (by have := HKL.out; omega)) (fun b hb => ⟨Nat.lt_of_lt_of_le (Nat.lt_of_lt_of_le hb K5.out.1) hg.size, fun e => by have := (OwnK.lies hown0 b e).1; have := K5.out.1; omega⟩) hg.size (by have := HLN.out; rw [List.length_drop, List.length_take]; omega) 26;refine step_append_by rfl (.tmp 44) (.tmp 49) 26 rfl (by simp [Act.eval, e4]) (by simp [Act.eval, e9]) hrun ?_;have hG2 : Below w5.heap.size w5 w6 := ⟨hgr.os.trans hg.os, hgr.tape.trans hg.tape, hgr.output.trans hg.output, Nat.le_trans hg.size hgr.size, fun j hj => (hgr.block j (Nat.lt_of_lt_of_le hj hg.size) (fun e => by have := (OwnK.lies hown0 j e.symm).1; omega)).trans (hg.block j hj)⟩;exact hK.out _ _ hG2 (fun _ => hown) (fPass rfl)
   case s11 =>
    intro ph a w' hoff hg hdep K hK;have h10 := off_at hoff 10 (v := .pointer (some ⟨k12, 0, none⟩)) (by kernel_rfl) rfl;rw [if_pos (by rfl)];go_simp;exact hK.out _ _ hg rfl (fun _ _ h => h)
   case last =>
    intro a w' hoff hg hf;replace hg : Below w5.heap.size w5 w' := hg;obtain ⟨_, e0, rfl⟩ := hf 0 _ 40 (by decide) rfl rfl;obtain ⟨_, e1, rfl⟩ := hf 1 _ 41 (by decide) rfl rfl;obtain ⟨_, e2, rfl⟩ := hf 2 _ 42 (by decide) rfl rfl;obtain ⟨_, e3, rfl⟩ := hf 3 _ 43 (by decide) rfl rfl;obtain ⟨v4, e4, -⟩ := hf 4 _ 44 (by decide) rfl rfl;obtain ⟨_, e5, rfl⟩ := hf 5 _ 45 (by decide) rfl rfl;obtain ⟨_, e6, rfl⟩ := hf 6 _ 46 (by decide) rfl rfl;obtain ⟨_, e7, rfl⟩ := hf 7 _ 47 (by decide) rfl rfl;obtain ⟨_, e8, rfl⟩ := hf 8 _ 48 (by decide) rfl rfl;obtain ⟨_, e9, rfl⟩ := hf 9 _ 49 (by decide) rfl rfl;obtain ⟨v10, e10, f10⟩ := hf 10 _ 50 (by decide) rfl rfl;have g10 : OwnK kdRu (fun b => b < k8) w' w5.heap.size (q.rules.take k ++ q.rules.drop (k + 1)) v10 := f10 rfl;clear f10;obtain ⟨_, e11, rfl⟩ := hf 11 _ 51 (by decide) rfl rfl;obtain ⟨M, hM⟩ : ∃ M, (q.rules.take k ++ q.rules.drop (k + 1)) = M := ⟨_, rfl⟩;rw [hM] at g10;have hml : M.length ≤ 100000 := by rw [← hM, List.length_append, List.length_take, List.length_drop]; have := HLN.out; omega
    obtain ⟨na, nc, rfl⟩ := OwnK.form g10;have hy := Y5.out.on hg;obtain ⟨o0, o1, o2⟩ := hy.cells;have z2 := frozen_of_row w' k12 2 _ _ hy;rw [if_pos (by rfl)];rw [hoff.sets [(40, .pointer (some ⟨k8, 2, none⟩)), (41, .slice (some ⟨rb, ro, none⟩) q.rules.length rc), (42, .int .i64 (k : Int)), (43, .slice (some ⟨rb, ro, none⟩) k rc), (44, v4), (45, .pointer (some ⟨k8, 2, none⟩)), (46, .slice (some ⟨rb, ro, none⟩) q.rules.length rc), (47, .int .i64 (k : Int)), (48, .int .i64 ((k : Int) + 1)), (49, .slice (if rc = k + 1 then some ⟨rb, ro, none⟩ else some ⟨rb, ro + (k + 1) * 6, none⟩) (q.rules.length - (k + 1)) (rc - (k + 1))), (50, .slice na M.length nc), (51, .pointer (some ⟨k12, 2, none⟩))] (by kernel_rfl) (by intro p hp; simp only [List.mem_cons, List.not_mem_nil, or_false] at hp; rcases hp with rfl | rfl | rfl | rfl | rfl | rfl | rfl | rfl | rfl | rfl | rfl | rfl <;> assumption)];clear hoff hf e0 e1 e2 e3 e4 e5 e6 e7 e8 e9 e10 e11;simp only [List.foldl_cons, List.foldl_nil, List.setIfInBounds_toArray, List.set_cons_zero, List.set_cons_succ]
    generalize (if rc = k + 1 then (some ⟨rb, ro, none⟩ : Option Addr) else some ⟨rb, ro + (k + 1) * 6, none⟩) = adr at *;go_simp;have hK := K5.out; have hWK := HWK.out
    have Y6 : Hid (BoxPr (w'.setCell ⟨k12, 2, none⟩ (.slice na M.length nc)) k12 (.slice d0 q.decls.length d1) (.slice f0 q.facts.length f1) (.slice na M.length nc)) := heap_setCell_same _ _ _ _ _ _ hy;have keep : ∀ b, b < k8 → (w'.setCell ⟨k12, 2, none⟩ (.slice na M.length nc)).heap[b]? = w5.heap[b]? := fun b hb => (Below.heap_setCell _ _ _ _ (by simp; omega)).trans (hg.block b (by omega))
    have ho : OwnK kdRu (fun b => b < k8) (w'.setCell ⟨k12, 2, none⟩ (.slice na M.length nc)) w5.heap.size M (.slice na M.length nc) := OwnK.on g10 (fun _ h => h) (fun b hb => Below.heap_setCell _ _ _ _ (by simp; omega)) (fun b h1 _ _ => Below.heap_setCell _ _ _ _ (by simp; omega));have hsz : (w'.setCell ⟨k12, 2, none⟩ (.slice na M.length nc)).heap.size = w'.heap.size := by simp [World.setCell]
    have G6 : Hid (RepPr (fun b => b < (w'.setCell ⟨k12, 2, none⟩ (.slice na M.length nc)).heap.size ∧ b ≠ k12) (w'.setCell ⟨k12, 2, none⟩ (.slice na M.length nc)) ⟨q.decls, q.facts, M⟩ (.slice d0 q.decls.length d1) (.slice f0 q.facts.length f1) (.slice na M.length nc)) := by
     have hs := hg.size;exact ⟨RepDes.on (fun b hb => ⟨by omega, by omega⟩) keep G5.out.1, RepFas.on (fun b hb => ⟨by omega, by omega⟩) keep G5.out.2.1, OwnK.slg' ho (fun b hb => ⟨by omega, by omega⟩) (fun b h1 h2 => ⟨h2, by omega⟩) hml⟩
    have B6 : Hid (Below W.heap.size W (w'.setCell ⟨k12, 2, none⟩ (.slice na M.length nc))) := Below.setCell (p := ⟨k12, 2, none⟩) (Below.trans B5.out (hg.mono (show W.heap.size ≤ w5.heap.size by omega))) (by simp; omega) _;have H6 : Hid (∀ b, b < w5.heap.size → b ≠ k12 → (w'.setCell ⟨k12, 2, none⟩ (.slice na M.length nc)).heap[b]? = w5.heap[b]?) := fun b h1 h2 => (Below.heap_setCell _ _ _ _ (by simpa using h2)).trans (hg.block b h1)
    have HS6 : Hid (w5.heap.size ≤ (w'.setCell ⟨k12, 2, none⟩ (.slice na M.length nc)).heap.size) := by show _ ≤ _; rw [hsz]; exact hg.size
    have X6 : Hid (BoxPr (w'.setCell ⟨k12, 2, none⟩ (.slice na M.length nc)) k8 (.slice d0 q.decls.length d1) (.slice f0 q.facts.length f1) (.slice (some ⟨rb, ro, none⟩) q.rules.length rc)) := (H6.out k8 (by omega) (by omega)).trans X5.out;have G6q : Hid (RepPr (fun b => b < k8) (w'.setCell ⟨k12, 2, none⟩ (.slice na M.length nc)) q (.slice d0 q.decls.length d1) (.slice f0 q.facts.length f1) (.slice (some ⟨rb, ro, none⟩) q.rules.length rc)) := RepPr.on (fun _ h => h) (fun b hb => keep b hb) G5.out;have HM := Lib.hid hM;clear hM hml hy hK hWK keep ho hsz hg g10 o0 o1 o2 z2 RR5 G5 X5 Y5 B5;generalize (w'.setCell ⟨k12, 2, none⟩ (.slice na M.length nc)) = w6 at *;obtain ⟨o0, o1, o2⟩ := Y6.out.cells;have HK12 : Hid (k8 < k12 ∧ k12 < w6.heap.size) := by show _ ∧ _; have := K5.out; have := HS6.out; omega
    go_wp2_with fail
    refine (strata_any ⟨q.decls, q.facts, M⟩ (fun b => b < w6.heap.size) w6 _ _ _ (fun b hb => hb) (RepPr.on (fun b hb => hb.1) (fun _ _ => rfl) G6.out)).mono ?_;intro e w8 hs;obtain ⟨Lb, cb, vb', rfl, hlb, hrb, hb⟩ := strata_rep hs
    have hmm : (∀ r ∈ M, r ∈ q.rules) ∧ M.length ≤ 64 := by
     rw [← HM.out];refine ⟨fun r hr => ?_, ?_⟩
     ·rcases List.mem_append.1 hr with h | h
      ·exact List.mem_of_mem_take h
      ·exact List.mem_of_mem_drop h
     ·rw [List.length_append, List.length_drop, List.length_take]; have := HLN.out; omega
    obtain ⟨hcb, hlen, hle⟩ := strata_fewer hmm.1 hmm.2 HCA.out HRA.out hrb;have HLE := Lib.hid hle; have HLL := Lib.hid hlen
    have X8 := Lib.hid (X6.out.on hb);have RR8 : Hid (RepRus (fun b => b < k8) w8 q.rules (.slice (some ⟨rb, ro, none⟩) q.rules.length rc)) := RepRus.on (fun _ h => h) (fun b hb' => hb.block b (Nat.lt_trans hb' (Nat.lt_trans HK12.out.1 HK12.out.2))) G6q.out.2.2;have A8 : Hid (RepIs (fun b => b < w8.heap.size) w8 La va') := RepIs.on (fun b hb' => by have := HS46.out; have := HS6.out; have := hb.size; have := hb'.2; omega) (fun b hb' => (hb.block b (by have := HS46.out; have := HS6.out; have := hb'.2; omega)).trans ((H6.out b (by have := HS46.out; have := hb'.2; omega) (by have := HK46.out; have := hb'.2; omega)).trans (HD45.out b hb'.2))) HLA.out;have C8 : Hid (RepIs (fun b => b < w8.heap.size) w8 Lb vb') := RepIs.on (fun b hb' => hb'.2) (fun _ _ => rfl) hlb;have B8 := Lib.hid (Below.step B6.out hb);obtain ⟨pa, pc, rfl⟩ := SlG.form A8.out;obtain ⟨qa, qc, rfl⟩ := SlG.form C8.out;subst hcb;have hln : ((Lb.length : Int) != (La.length : Int)) = false := by rw [hlen]; simp
    clear hs hlb hrb hb hmm hlen hle o0 o1 o2 Y6 G6 B6 G6q X6 HLA HRA H6 HS6 HS46 HK46 HD45 HM K5 HK12 HCA;go_wp2_with fail
    clear hln;have hln6 := HLN.out;have HBD := Lib.hid (pr_rules HQR.out);obtain ⟨o0, o1, o2⟩ := X8.out.cells;go_loopw [13, 14] (fun pv iv wr => ∃ i : Nat, i ≤ q.rules.length ∧ iv = .int .i64 (i : Int) ∧ pv = .bool (plainR (q.rules.take i)) ∧ wr = w8) (fun _ iv _ => q.rules.length - (intOf iv).toNat)
    case atStart => exact ⟨0, Nat.zero_le _, rfl, rfl, rfl⟩
    case round =>
     obtain ⟨i, hi, rfl, rfl, rfl⟩ := hrel
     by_cases hil : i < q.rules.length
     ·obtain ⟨-, -, rb2, ro2, xa, xc, ya, yc, hra2, -, g0, g1, g2, g3, g4, g5, g⟩ := RepRus.at RR8.out i hil
      cases hra2
      have HTK : Hid (plainR (q.rules.take (i + 1)) = (plainR (q.rules.take i) && (q.rules[i].agg.toList.isEmpty && q.rules[i].body.all fun z => z.kind != 2))) := by
       show _ = _
       rw [List.take_succ_eq_append_getElem hil, plainR, List.all_append]; simp [plainR]
      have hb8 : q.rules[i].body.length ≤ 8 := by
       have h := HBD.out _ (List.getElem_mem hil);rw [ruB] at h;simp only [Bool.and_eq_true] at h
       have := (listB_bounds h.2.2.2).2.1;omega
      have GB := Lib.hid g.2.2.2.2.2.2.2.2.2;clear g;have i1 : (0 : Int) ≤ (i : Int) := Int.natCast_nonneg _;have i2 : (i : Int) < (q.rules.length : Int) := by omega
      generalize q.rules[i] = r at *;obtain ⟨pb, hpb⟩ : ∃ pb, plainR (q.rules.take i) = pb := ⟨_, rfl⟩;obtain ⟨ae, hae⟩ : ∃ ae, r.agg.toList.isEmpty = ae := ⟨_, rfl⟩;rw [hpb] at HTK ⊢;rw [hae] at HTK;clear hpb;go_upto_region 16 with fail
      go_cut [13] from 73 to 82 (fun s wx => s = .bool (pb && ae) ∧ wr = wx)
      case first =>
       cases pb
       ·go_wp2_with fail
        go_meet
        exact ⟨rfl, rfl⟩
       ·go_wp2_with fail
        go_meet
        exact ⟨rfl, rfl⟩
      case rest =>
       obtain ⟨rfl, rfl⟩ := hcut;clear hae;go_wp2_with fail
       go_loopw [13, 15] (fun pv jv wx => ∃ j : Nat, j ≤ r.body.length ∧ jv = .int .i64 (j : Int) ∧ pv = .bool ((pb && ae) && (r.body.take j).all fun z => z.kind != 2) ∧ wx = wr) (fun _ jv _ => r.body.length - (intOf jv).toNat)
       case atStart => exact ⟨0, Nat.zero_le _, rfl, by simp, by first | rfl | trivial⟩
       case round =>
        obtain ⟨j, hj, rfl, rfl, rfl⟩ := hrel
        by_cases hjl : j < r.body.length
        ·obtain ⟨-, -, yb, yo, za, zc, hya, -, y0, y1, y2, -⟩ := RepLis.at GB.out j hjl
         have HTJ : Hid (((pb && ae) && (r.body.take (j + 1)).all fun z => z.kind != 2) = (((pb && ae) && (r.body.take j).all fun z => z.kind != 2) && (r.body[j].kind != 2))) := by
          show _ = _
          rw [List.take_succ_eq_append_getElem hjl, List.all_append]; simp [Bool.and_assoc]
         subst hya;have j1 : (0 : Int) ≤ (j : Int) := Int.natCast_nonneg _;have j2 : (j : Int) < (r.body.length : Int) := by omega
         generalize r.body[j] = z at *;obtain ⟨qb2, hqb⟩ : ∃ x, ((pb && ae) && (r.body.take j).all fun z => z.kind != 2) = x := ⟨_, rfl⟩;rw [hqb] at HTJ ⊢;clear hqb
         cases qb2
         ·have HK : Hid (((pb && ae) && (r.body.take (j + 1)).all fun z => z.kind != 2) = false) := by show _ = _; rw [HTJ.out]; rfl
          go_wp2_with fail
          go_roundw
          case rel => exact ⟨j + 1, hjl, by go_num, by rw [HK.out], by first | rfl | trivial⟩
          case measure => simp [intOf]; omega
         ·have HK : Hid (((pb && ae) && (r.body.take (j + 1)).all fun z => z.kind != 2) = (z.kind != 2)) := by show _ = _; rw [HTJ.out]; rfl
          go_wp2_with fail
          go_roundw
          case rel => exact ⟨j + 1, hjl, by go_num, by rw [HK.out], by first | rfl | trivial⟩
          case measure => simp [intOf]; omega
        ·have hjl2 : j = r.body.length := by omega
         have HK : Hid (((pb && ae) && (r.body.take j).all fun z => z.kind != 2) = plainR (q.rules.take (i + 1))) := by
          show _ = _
          rw [HTK.out, hjl2, List.take_length, Bool.and_assoc]
         rw [HK.out];subst hjl2;go_wp2_with fail
         go_roundw
         case rel => exact ⟨i + 1, hil, by go_num, rfl, by first | rfl | trivial⟩
         case measure => simp [intOf]; omega
     ·have hil2 : i = q.rules.length := by omega
      subst hil2;rw [List.take_length];generalize wr = w9 at *;obtain ⟨pb, hpb⟩ : ∃ pb, plainR q.rules = pb := ⟨_, rfl⟩;have HPB := Lib.hid hpb;rw [hpb];clear hpb;have hl63 := SlG.bytes A8.out;go_wp2_with fail
      go_loopw [16] (fun iv wr => ∃ i : Nat, i ≤ La.length ∧ iv = .int .i64 (i : Int) ∧ Below w9.heap.size w9 wr) (fun iv _ => La.length - (intOf iv).toNat)
      case atStart => exact ⟨0, Nat.zero_le _, rfl, Below.refl _ _⟩
      case round =>
       obtain ⟨m, hm, rfl, hbel⟩ := hrel
       by_cases hml : m < La.length
       ·have hml2 : m < Lb.length := by rw [HLL.out]; exact hml
        obtain ⟨-, -, ab, ao, hpa, -, c, hc, hcx⟩ := SlG.at (RepIs.on (fun _ h => h) (fun j hj => hbel.block j hj) A8.out) m hml;obtain ⟨-, -, bb, bo, hqa, -, d, hd, hdx⟩ := SlG.at (RepIs.on (fun _ h => h) (fun j hj => hbel.block j hj) C8.out) m hml2;subst hpa;subst hqa;have u0 : wr.cell? ⟨ab, ao + m, none⟩ = some (.int .i64 La[m]) := by have h := hc 0 (by omega); rw [hcx] at h; simpa using h
        have u1 : wr.cell? ⟨bb, bo + m, none⟩ = some (.int .i64 Lb[m]) := by have h := hd 0 (by omega); rw [hdx] at h; simpa using h
        obtain ⟨l1, l2⟩ := HLE.out m hml hml2;have hplain : pb = true → La[m] = 0 := fun e => l2 (HPB.out.trans e)
        have m1 : (0 : Int) ≤ (m : Int) := Int.natCast_nonneg _;have m2 : (m : Int) < (La.length : Int) := by omega
        have m3 : (m : Int) < (Lb.length : Int) := by omega
        clear hc hcx hd hdx l2;generalize La[m] = x at *;generalize Lb[m] = y at *;have HBEL := Lib.hid hbel;have hgt : decide (x < y) = false := decide_eq_false (by omega);clear hbel l1
        cases pb
        ·clear hplain
         go_upto_region 24 with fail
         go_quiet (fail)
         go_wp2_with fail
         go_roundw
         case rel => exact ⟨m + 1, hml, by go_num, below_drewN HBEL.out _⟩
         case measure => simp [intOf]; omega
        ·have hx0 : x = 0 := hplain rfl
         have hx1 : (x != 0) = false := by rw [hx0]; rfl
         clear hplain hx0;go_upto_region 24 with fail
         go_quiet (fail)
         go_wp2_with fail
         go_roundw
         case rel => exact ⟨m + 1, hml, by go_num, below_drewN HBEL.out _⟩
         case measure => simp [intOf]; omega
       ·have hml2 : m = La.length := by omega
        have B9 := Lib.hid (Below.step B8.out hbel);subst hml2;go_wp2_with fail
        go_ret
        exact ⟨rfl, B9.out⟩
end Go.Proofs.YtcmlojigcgihbaaGreat.strataLess
namespace Go.Proofs.YtcmlojigcgihbaaGreat
open Go.ChangeShapes Go.WideShapes Go.ChangeAt Go.RowKit Go.Deep Go.Joins
theorem cellsInt : Tryz.prog.cellsOf 3 = 1 := by kernel_rfl
theorem i64_wf {n : Int} (h : (Lit.int .i64 n).wf = true) : I64 n := bounds_i64 h
section
variable {H : Type} {enc : TypeId × Value → H} {W : World}
theorem weightsAll_mem {P : Program} {e : TypeId} {ds : List (DataW H)} {d : DataW H} (h : d ∈ ds) (n : Nat) (hn : n ∈ d.weights P e) : n ∈ DataW.weightsAll P e ds := by
 induction ds with
 | nil => cases h
 | cons x r ih =>
  rw [DataW.weightsAll, List.mem_append];rcases List.mem_cons.1 h with rfl | h
  ·exact Or.inl hn
  ·exact Or.inr (ih h)
def Fits (P : Program) (t : TypeId) (d : DataW H) : Prop := ∀ n ∈ d.weights P t, n ≤ reachBytes
theorem cell_lt {w : World} {a : Addr} {v : Value} (h : w.cell? a = some v) : a.block < w.heap.size := by
 by_cases hlt : a.block < w.heap.size
 ·exact hlt
 ·have hn : w.heap[a.block]? = none := by simp; omega
  simp [World.cell?, hn] at h
theorem sizeOf_mem {D : Nat → DataW H} {len i : Nat} (h : i < len) {sp : List (DataW H)} : SizeOf.sizeOf (D i) < SizeOf.sizeOf (DataW.slice ((List.range len).map D) sp) := by
 have := List.sizeOf_lt_of_mem (List.mem_map_of_mem (f := D) (List.mem_range.2 h));simp only [DataW.slice.sizeOf_spec]
 omega
set_option maxRecDepth 100000 in
end
end Go.Proofs.YtcmlojigcgihbaaGreat
namespace Go.Proofs.YtcmlojigcgihbaaGreat
open Go.ChangeShapes Go.WideShapes Go.ChangeAt Go.RowKit
theorem own : ownKnob Tryz.prog.godebug = none := by kernel_rfl
theorem laidOut : laidOutB Tryz.prog = true := by kernel_rfl
noncomputable def plainWorld (os : Os) : World := World.holding Tryz.prog os ⟨#[], #[], []⟩
section
variable {H : Type} {enc : TypeId × Value → H}
theorem trodAll_below {W W' : World} (hb : Below W.heap.size W W') : ∀ (ts : List TypeId) (vs : List Value) (ds : List (DataW H)) (ps : List MemPlace), DataW.TrodAll enc Tryz.prog W 0 (fun _ => true) true ts vs ds ps →
  (∀ t ∈ ts, Tryz.prog.readableRec t = true ∧ t < Tryz.prog.types.size) → (∀ x ∈ ps, x.block < W.heap.size) → DataW.TrodAll enc Tryz.prog W' 0 (fun b => decide (b < W.heap.size)) true ts vs ds ps
 | [], [], [], ps, h, _, _ => h
 | t :: ts, v :: vs, d :: ds, ps, h, ht, hp => by
  obtain ⟨p, q, h1, h2, rfl⟩ := h;obtain ⟨r1, r2⟩ := ht t (by simp);exact ⟨p, q, Below.trod laidOut r1 r2 h1 hb (fun x hx => hp x (by simp [hx])), trodAll_below hb ts vs ds q h2 (fun t' h' => ht t' (by simp [h'])) (fun x hx => hp x (by simp [hx])), rfl⟩
 | [], _ :: _, _, _, h, _, _ => by cases h
 | _ :: _, [], _, _, h, _, _ => by cases h
 | [], [], _ :: _, _, h, _, _ => by cases h
 | _ :: _, _ :: _, [], _, h, _, _ => by cases h
theorem law_post {fn : Func} {s : ChangeSpec} {W W' : World} {args : Array Value} {ds gs : List (DataW H)} {before : List MemPlace}
  (hvars : s.vars = []) (hres : fn.resultTypes = #[4]) (hread : ∀ t ∈ fn.params.toList, Tryz.prog.readableRec t = true ∧ t < Tryz.prog.types.size)
  (hW : DataW.Whole enc Tryz.prog fn.params.toList s.vars false W args.toList ds gs before)
  (hs : s.fn H (ds ++ gs) = { results := [.lit (.bool true)], args := ds })
  (hb : Below W.heap.size W W') : s.post enc Tryz.prog fn false true false false W args (.bool true) W' := by
 have hW' := hW;obtain ⟨p, q, hA, hV, rfl, hfz, hnd⟩ := hW;rw [hvars] at hV;obtain ⟨rfl, rfl⟩ := trodVars_none hV;refine ⟨ds, [], p ++ [], [], p, [], hW', ?_, ?_, ?_, hb.frame _, fun h => by cases h⟩
 ·rw [hres, hs]
  exact trodAll_cons_mk (shut_bool Tryz.underlying4 _) trodAll_mk0
 ·rw [hs]
  exact trodAll_below hb _ _ _ _ hA hread (fun x hx => hW'.lt x (by simp [hx]))
 ·rw [hs, hvars]
  rfl
theorem fits_cons {t : TypeId} {ts : List TypeId} {d : DataW H} {ds : List (DataW H)} (h : (DataW.weightsEach Tryz.prog (t :: ts) (d :: ds)).all (· ≤ reachBytes) = true) :
  Fits Tryz.prog t d ∧ (DataW.weightsEach Tryz.prog ts ds).all (· ≤ reachBytes) = true := by
 rw [DataW.weightsEach, List.all_append, Bool.and_eq_true] at h;exact ⟨fun n hn => by simpa using (List.all_eq_true.1 h.1) n hn, h.2⟩
end
end Go.Proofs.YtcmlojigcgihbaaGreat
