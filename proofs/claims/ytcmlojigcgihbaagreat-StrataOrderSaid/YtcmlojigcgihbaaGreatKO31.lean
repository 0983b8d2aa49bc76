/-
  LawTOrder, Open, LawPost, OpenFour, OpenSix
-/
import Derived.Test.YtcmlojigcgihbaaGreatKO30
import Derived.Test.YtcmlojigcgihbaaGreatKO08
import Derived.Test.YtcmlojigcgihbaaGreatKO01
import Derived.Test.YtcmlojigcgihbaaGreatKO02
import Derived.Test.YtcmlojigcgihbaaGreatRows
import Derived.Test.YtcmlojigcgihbaaGreatKO04
import Derived.BigQuiet
import Derived.ProofKit
import Derived.Lib.SmallJoins
import Derived.Deep.Slices
import Derived.OpenShut
import Derived.Deep.DeepHandedRow
import Derived.Deep.Strs
import Derived.Laws.IdiomArrays
namespace Go.Proofs.YtcmlojigcgihbaaGreat.strataOrder
open Go.RowKit
set_option maxRecDepth 100000 in
set_option maxHeartbeats 8000000 in
theorem walk (rules : List (List Rw)) (which : Int) (W : World) (va : Value) (ga : RepRwss (fun k => k < W.heap.size) W rules va) (hw : I64 which) :
  Calls Tryz.prog 5 #[va, .int .i64 which] W fun e W' => e = .returned (.bool true) ∧ Below W.heap.size W W' := by
 have GA := Lib.hid ga; have HW := Lib.hid hw
 clear ga hw;go_enter Tryz.func5, Tryz.ntmps5
 go_wp2_with fail
 refine (awake8_any W).mono ?_;rintro e w1 ⟨rfl, hb⟩;have B1 := Lib.hid hb;clear hb;go_wp2_with fail
 refine (program_any rules [] (fun k => k < W.heap.size) w1 va _ (fun k hk => Nat.lt_of_lt_of_le hk B1.out.size) (SlG.on (fun _ h => h) (fun k hk => B1.out.block k hk) (fun x _ c h => SlG.on (fun _ h => h) (fun k hk => B1.out.block k hk) (fun _ _ _ h => h) h) GA.out) slg_nil).mono ?_;rintro e w2 ⟨v0, v1, v2, rfl, hrep, hb⟩;have HQR := Lib.hid (right_prog rules []);have HDE : Hid ((progZ rules []).decls = decls6) := rfl;have HLN : Hid ((progZ rules []).rules.length ≤ 6) := by show _ ≤ _; show (rulesTo rules _).length ≤ 6; rw [rulesTo_len]; omega
 generalize progZ rules [] = q at *;obtain ⟨d0, d1, rfl⟩ := SlG.form hrep.1;obtain ⟨f0, f1, rfl⟩ := SlG.form hrep.2.1;obtain ⟨r0, rc, rfl⟩ := SlG.form hrep.2.2;have HRP := Lib.hid hrep; have B2 := Lib.hid (Below.step B1.out hb)
 clear hrep hb B1 GA;go_upto_region 3 with fail
 have mk := boxPr_new w2 (.slice d0 q.decls.length d1) (.slice f0 q.facts.length f1) (.slice r0 q.rules.length rc);have da := below_alloc w2 (.cells #[.slice d0 q.decls.length d1, .slice f0 q.facts.length f1, .slice r0 q.rules.length rc] 28);have sa := World.size_alloc w2 (.cells #[.slice d0 q.decls.length d1, .slice f0 q.facts.length f1, .slice r0 q.rules.length rc] 28);generalize w2.alloc (.cells #[.slice d0 q.decls.length d1, .slice f0 q.facts.length f1, .slice r0 q.rules.length rc] 28) = w3 at *;have GQ : Hid (RepPr (fun k => k < w2.heap.size) w3 q (.slice d0 q.decls.length d1) (.slice f0 q.facts.length f1) (.slice r0 q.rules.length rc)) := RepPr.on (fun k hk => hk.2) (fun k hk => da.block k hk.2) HRP.out;have B3 := Lib.hid (Below.step B2.out da);obtain ⟨k8, hk8⟩ : ∃ k, w2.heap.size = k := ⟨_, rfl⟩;rw [hk8] at mk GQ sa ⊢;have X3 := Lib.hid mk;have K3 : Hid (k8 < w3.heap.size) := by show _ < _; omega
 have HWK : Hid (W.heap.size ≤ k8) := by show _ ≤ _; rw [← hk8]; exact B2.out.size
 clear mk da sa hk8 HRP B2;have HLP : Hid (prB q = true) := HQR;obtain ⟨o0, o1, o2⟩ := X3.out.cells
 by_cases hz : q.rules.length = 0
 ·have hz1 : ((q.rules.length : Int) == 0) = true := by simp [hz]
  go_wp2_with fail
  go_ret
  exact ⟨rfl, B3.out⟩
 ·have hz1 : ((q.rules.length : Int) == 0) = false := by simp; exact fun e => hz (by rw [e]; rfl)
  have hzp : 0 < q.rules.length := by omega
  go_wp2_with fail
  refine (pick8_any which (q.rules.length : Int) _ HW.out (by omega) (by have := HLN.out; omega)).mono ?_;rintro e w' ⟨rfl, rfl⟩;have hpb := pickZ_bd which (q.rules.length : Int) (by omega);obtain ⟨k, hk⟩ := Int.eq_ofNat_of_zero_le hpb.1;rw [hk] at hpb ⊢;have HKL : Hid (k < q.rules.length) := by show _ < _; omega
  have X4 := X3; have B4 := B3; have K4 := K3; have G4 := GQ
  clear hpb hk hz hz1 hzp X3 B3 K3 GQ;go_upto_region 7 with fail
  have mk := boxPr_new w3 (.slice d0 q.decls.length d1) (.slice f0 q.facts.length f1) (.slice r0 q.rules.length rc);have da := below_alloc w3 (.cells #[.slice d0 q.decls.length d1, .slice f0 q.facts.length f1, .slice r0 q.rules.length rc] 28);have sa := World.size_alloc w3 (.cells #[.slice d0 q.decls.length d1, .slice f0 q.facts.length f1, .slice r0 q.rules.length rc] 28);generalize w3.alloc (.cells #[.slice d0 q.decls.length d1, .slice f0 q.facts.length f1, .slice r0 q.rules.length rc] 28) = w5 at *;have G5 : Hid (RepPr (fun k => k < k8) w5 q (.slice d0 q.decls.length d1) (.slice f0 q.facts.length f1) (.slice r0 q.rules.length rc)) := RepPr.on (fun _ h => h) (fun k hk => da.block k (Nat.lt_trans hk K4.out)) G4.out;have X5 := Lib.hid (X4.out.on da);have B5 := Lib.hid (Below.step B4.out da);obtain ⟨k12, hk12⟩ : ∃ k, w3.heap.size = k := ⟨_, rfl⟩;rw [hk12] at mk sa K4 ⊢;have Y5 := Lib.hid mk;have K5 : Hid (k8 ≤ w5.heap.size ∧ k8 < k12 ∧ k12 < w5.heap.size) := by show _ ∧ _ ∧ _; have := K4.out; omega
  clear o0 o1 o2;clear mk da sa hk12 G4 X4 B4 K4;obtain ⟨-, hlc, rb, ro, hra, -⟩ := SlG.at G5.out.2.2 k HKL.out;subst hra;have RR5 : Hid (RepRus (fun b => b < k8) w5 q.rules (.slice (some ⟨rb, ro, none⟩) q.rules.length rc)) := G5.out.2.2;have HK1 : Hid ((0 : Int) ≤ (k : Int)) := Int.natCast_nonneg k;have HK2 : Hid ((k : Int) ≤ (rc : Int)) := by show _ ≤ _; have := HKL.out; omega
  have HK2b : Hid ((k : Int) ≤ (q.rules.length : Int)) := by show _ ≤ _; have := HKL.out; omega
  have HK3 : Hid ((rc : Int) ≤ (rc : Int)) := Int.le_refl _;have HK5 : Hid (IntKind.i64.wrap ((k : Int) + 1) = (k : Int) + 1) := by show _ = _; have := HKL.out; have := HLN.out; rw [IntKind.wrap_i64]; omega
  have HK6 : Hid ((0 : Int) ≤ (k : Int) + 1) := by show _ ≤ _; omega
  have HK7 : Hid ((k : Int) + 1 ≤ (q.rules.length : Int)) := by show _ ≤ _; have := HKL.out; omega
  have HK8 : Hid ((q.rules.length : Int) ≤ (rc : Int)) := by show _ ≤ _; omega
  have HK9 : Hid (((k : Int) + 1).toNat = k + 1) := by show _ = _; omega
  clear hlc;refine wp_region_factsP (by rfl) 61 (by rfl) (by kernel_rfl) 9 (fun q => q == 0 || q == 1 || q == 2 || q == 3 || q == 4 || q == 5 || q == 6 || q == 7 || q == 8) (by kernel_rfl) (FB [.e (.pointer (some ⟨k8, 2, none⟩)), .e (.slice (some ⟨rb, ro, none⟩) q.rules.length rc), .e (.int .i64 (k : Int)), .e (.slice (if rc = k then some ⟨rb, ro, none⟩ else some ⟨rb, ro + k * 6, none⟩) (q.rules.length - k) (rc - k)), .p (fun wz vz => k8 ≤ wz.heap.size ∧ OwnK kdRu (fun b => b < k8) wz w5.heap.size (q.rules.drop k) vz), .e (.pointer (some ⟨k8, 2, none⟩)), .e (.slice (some ⟨rb, ro, none⟩) q.rules.length rc), .e (.int .i64 (k : Int)), .e (.slice (some ⟨rb, ro, none⟩) k rc), .t (fun wz vz => OwnK kdRu (fun b => b < k8) wz w5.heap.size (q.rules.drop k ++ q.rules.take k) vz), .e (.pointer (some ⟨k12, 2, none⟩))]) (fun ph w' => if ph = true then Below w5.heap.size w5 w' else Below w5.heap.size w5 w') (Below.drew (Below.refl _ _)) ⟨?s0, ?s1, ?s2, ?s3, ?s4, ?s5, ?s6, ?s7, ?s8, ?s9, ?s10, trivial⟩ (by rfl) ?last
  case s0 =>
   intro a w' hoff hg hdep K hK;replace hg : Below w5.heap.size w5 w' := hg;have h6 := off_at hoff 6 (v := .pointer (some ⟨k8, 0, none⟩)) (by kernel_rfl) rfl;rw [if_pos (by rfl)];go_simp;exact hK.out _ _ hg rfl (fun _ _ h => h)
  case s1 =>
   intro a w' hoff hg hdep K hK;replace hg : Below w5.heap.size w5 w' := hg;obtain ⟨_, e0, rfl⟩ := hdep 0 _ 27 (by kernel_rfl) rfl rfl;rw [if_pos (by rfl)];obtain ⟨o0, o1, o2⟩ := (X5.out.on hg).cells;go_simp;exact hK.out _ _ hg rfl (fun _ _ h => h)
  case s2 =>
   intro a w' hoff hg hdep K hK;replace hg : Below w5.heap.size w5 w' := hg;have h7 := off_at hoff 7 (v := .int .i64 (k : Int)) (by kernel_rfl) rfl;rw [if_pos (by rfl)];go_simp;exact hK.out _ _ hg rfl (fun _ _ h => h)
  case s3 =>
   intro a w' hoff hg hdep K hK;replace hg : Below w5.heap.size w5 w' := hg;obtain ⟨_, e1, rfl⟩ := hdep 1 _ 28 (by kernel_rfl) rfl rfl;obtain ⟨_, e2, rfl⟩ := hdep 2 _ 29 (by kernel_rfl) rfl rfl;rw [if_pos (by rfl)];have hk1 := HK1.out; have hk2 := HK2b.out; have hk3 := HK8.out
   go_simp;exact hK.out _ _ hg rfl (fun _ _ h => h)
  case s4 =>
   intro a w' hoff hg hdep K hK;replace hg : Below w5.heap.size w5 w' := hg;obtain ⟨_, e3, rfl⟩ := hdep 3 _ 30 (by kernel_rfl) rfl rfl;have hrr := (SlG.on (fun _ h => h) (fun b hb => hg.block b (Nat.lt_of_lt_of_le hb K5.out.1)) (fun x _ c h => RepRu.on (fun _ h => h) (fun b hb => hg.block b (Nat.lt_of_lt_of_le hb K5.out.1)) h) RR5.out : RepRus (fun b => b < k8) w' q.rules (.slice (some ⟨rb, ro, none⟩) q.rules.length rc));obtain ⟨v', w6, hrun, hown, hgr⟩ := own_many (K := kdRu) (L := []) (m := q.rules.drop k) (lv := .slice none 0 0) (OwnK.nil (fun b => b < k8) w' w5.heap.size) (SlG.rest hrr (show k ≤ q.rules.length by have := HKL.out; omega) (by have := HKL.out; omega)) (fun b hb => ⟨Nat.lt_of_lt_of_le (Nat.lt_of_lt_of_le hb K5.out.1) hg.size, by simp [Value.ownBlock]⟩) hg.size (by have := HLN.out; simp; omega) 26;refine step_append_by rfl (.const (.slice none 0 0)) (.tmp 30) 26 rfl (by simp [Act.eval]) (by simp [Act.eval, e3]) hrun ?_;have hb : Below w'.heap.size w' w6 := ⟨hgr.os, hgr.tape, hgr.output, hgr.size, fun j hj => hgr.block j hj (by simp [Value.ownBlock])⟩;exact hK.out _ _ (Below.step hg hb) (fun _ => ⟨Nat.le_trans K5.out.1 (Nat.le_trans hg.size hb.size), by simpa using hown⟩) (fStP ⟨fun _ h' => ⟨Nat.le_trans h'.1 hb.size, OwnK.on h'.2 (fun _ h => h) (fun j hj => hb.block j (Nat.lt_of_lt_of_le hj h'.1)) (fun j _ hj _ => hb.block j hj)⟩, trivial⟩)
  case s5 =>
   intro a w' hoff hg hdep K hK;replace hg : Below w5.heap.size w5 w' := hg;have h6 := off_at hoff 6 (v := .pointer (some ⟨k8, 0, none⟩)) (by kernel_rfl) rfl;rw [if_pos (by rfl)];go_simp;exact hK.out _ _ hg rfl (fun _ _ h => h)
  case s6 =>
   intro a w' hoff hg hdep K hK;replace hg : Below w5.heap.size w5 w' := hg;obtain ⟨_, e5, rfl⟩ := hdep 5 _ 32 (by kernel_rfl) rfl rfl;rw [if_pos (by rfl)];obtain ⟨o0, o1, o2⟩ := (X5.out.on hg).cells;go_simp;exact hK.out _ _ hg rfl (fun _ _ h => h)
  case s7 =>
   intro a w' hoff hg hdep K hK;replace hg : Below w5.heap.size w5 w' := hg;have h7 := off_at hoff 7 (v := .int .i64 (k : Int)) (by kernel_rfl) rfl;rw [if_pos (by rfl)];go_simp;exact hK.out _ _ hg rfl (fun _ _ h => h)
  case s8 =>
   intro a w' hoff hg hdep K hK;replace hg : Below w5.heap.size w5 w' := hg;obtain ⟨_, e6, rfl⟩ := hdep 6 _ 33 (by kernel_rfl) rfl rfl;obtain ⟨_, e7, rfl⟩ := hdep 7 _ 34 (by kernel_rfl) rfl rfl;rw [if_pos (by rfl)];have hk1 := HK1.out; have hk2 := HK2.out; have hk3 := HK3.out
   go_simp;exact hK.out _ _ hg rfl (fun _ _ h => h)
  case s9 =>
   intro a w' hoff hg hdep K hK;replace hg : Below w5.heap.size w5 w' := hg;obtain ⟨v4, e4, f4⟩ := hdep 4 _ 31 (by kernel_rfl) rfl rfl;have g4 : k8 ≤ w'.heap.size ∧ OwnK kdRu (fun b => b < k8) w' w5.heap.size (q.rules.drop k) v4 := f4 rfl;clear f4;obtain ⟨_, e8, rfl⟩ := hdep 8 _ 35 (by kernel_rfl) rfl rfl;have hrr := (SlG.on (fun _ h => h) (fun b hb => hg.block b (Nat.lt_of_lt_of_le hb K5.out.1)) (fun x _ c h => RepRu.on (fun _ h => h) (fun b hb => hg.block b (Nat.lt_of_lt_of_le hb K5.out.1)) h) RR5.out : RepRus (fun b => b < k8) w' q.rules (.slice (some ⟨rb, ro, none⟩) q.rules.length rc));have hown0 := g4.2;obtain ⟨v', w6, hrun, hown, hgr⟩ := own_many (K := kdRu) (L := q.rules.drop k) (m := q.rules.take k) (lv := v4) hown0 (SlG.front hrr (by have := HKL.out; omega)) (fun b hb => ⟨Nat.lt_of_lt_of_le (Nat.lt_of_lt_of_le hb K5.out.1) hg.size, fun e => by have := (OwnK.lies hown0 b e).1; have := K5.out.1; omega⟩) hg.size (by have := HLN.out; rw [List.length_drop, List.length_take]; omega) 26;refine step_append_by rfl (.tmp 31) (.tmp 35) 26 rfl (by simp [Act.eval, e4]) (by simp [Act.eval, e8]) hrun ?_;have hG2 : Below w5.heap.size w5 w6 := ⟨hgr.os.trans hg.os, hgr.tape.trans hg.tape, hgr.output.trans hg.output, Nat.le_trans hg.size hgr.size, fun j hj => (hgr.block j (Nat.lt_of_lt_of_le hj hg.size) (fun e => by have := (OwnK.lies hown0 j e.symm).1; omega)).trans (hg.block j hj)⟩;exact hK.out _ _ hG2 (fun _ => hown) (fPass rfl)
  case s10 =>
   intro ph a w' hoff hg hdep K hK;have h8 := off_at hoff 8 (v := .pointer (some ⟨k12, 0, none⟩)) (by kernel_rfl) rfl;rw [if_pos (by rfl)];go_simp;exact hK.out _ _ hg rfl (fun _ _ h => h)
  case last =>
   intro a w' hoff hg hf;replace hg : Below w5.heap.size w5 w' := hg;obtain ⟨_, e0, rfl⟩ := hf 0 _ 27 (by decide) rfl rfl;obtain ⟨_, e1, rfl⟩ := hf 1 _ 28 (by decide) rfl rfl;obtain ⟨_, e2, rfl⟩ := hf 2 _ 29 (by decide) rfl rfl;obtain ⟨_, e3, rfl⟩ := hf 3 _ 30 (by decide) rfl rfl;obtain ⟨v4, e4, -⟩ := hf 4 _ 31 (by decide) rfl rfl;obtain ⟨_, e5, rfl⟩ := hf 5 _ 32 (by decide) rfl rfl;obtain ⟨_, e6, rfl⟩ := hf 6 _ 33 (by decide) rfl rfl;obtain ⟨_, e7, rfl⟩ := hf 7 _ 34 (by decide) rfl rfl;obtain ⟨_, e8, rfl⟩ := hf 8 _ 35 (by decide) rfl rfl;obtain ⟨v9, e9, f9⟩ := hf 9 _ 36 (by decide) rfl rfl;have g9 : OwnK kdRu (fun b => b < k8) w' w5.heap.size (q.rules.drop k ++ q.rules.take k) v9 := f9 rfl;clear f9;obtain ⟨_, e10, rfl⟩ := hf 10 _ 37 (by decide) rfl rfl;obtain ⟨M, hM⟩ : ∃ M, (q.rules.drop k ++ q.rules.take k) = M := ⟨_, rfl⟩;rw [hM] at g9;have hml : M.length ≤ 100000 := by rw [← hM, List.length_append, List.length_take, List.length_drop]; have := HLN.out; omega
   obtain ⟨na, nc, rfl⟩ := OwnK.form g9;have hy := Y5.out.on hg;obtain ⟨o0, o1, o2⟩ := hy.cells;have z2 := frozen_of_row w' k12 2 _ _ hy;rw [if_pos (by rfl)];rw [hoff.sets [(27, .pointer (some ⟨k8, 2, none⟩)), (28, .slice (some ⟨rb, ro, none⟩) q.rules.length rc), (29, .int .i64 (k : Int)), (30, .slice (if rc = k then some ⟨rb, ro, none⟩ else some ⟨rb, ro + k * 6, none⟩) (q.rules.length - k) (rc - k)), (31, v4), (32, .pointer (some ⟨k8, 2, none⟩)), (33, .slice (some ⟨rb, ro, none⟩) q.rules.length rc), (34, .int .i64 (k : Int)), (35, .slice (some ⟨rb, ro, none⟩) k rc), (36, .slice na M.length nc), (37, .pointer (some ⟨k12, 2, none⟩))] (by kernel_rfl) (by intro p hp; simp only [List.mem_cons, List.not_mem_nil, or_false] at hp; rcases hp with rfl | rfl | rfl | rfl | rfl | rfl | rfl | rfl | rfl | rfl | rfl <;> assumption)];clear hoff hf e0 e1 e2 e3 e4 e5 e6 e7 e8 e9 e10;simp only [List.foldl_cons, List.foldl_nil, List.setIfInBounds_toArray, List.set_cons_zero, List.set_cons_succ]
   generalize (if rc = k then (some ⟨rb, ro, none⟩ : Option Addr) else some ⟨rb, ro + k * 6, none⟩) = adr at *;go_simp;have hK := K5.out; have hWK := HWK.out
   have Y6 : Hid (BoxPr (w'.setCell ⟨k12, 2, none⟩ (.slice na M.length nc)) k12 (.slice d0 q.decls.length d1) (.slice f0 q.facts.length f1) (.slice na M.length nc)) := heap_setCell_same _ _ _ _ _ _ hy;have keep : ∀ b, b < k8 → (w'.setCell ⟨k12, 2, none⟩ (.slice na M.length nc)).heap[b]? = w5.heap[b]? := fun b hb => (Below.heap_setCell _ _ _ _ (by simp; omega)).trans (hg.block b (by omega))
   have ho : OwnK kdRu (fun b => b < k8) (w'.setCell ⟨k12, 2, none⟩ (.slice na M.length nc)) w5.heap.size M (.slice na M.length nc) := OwnK.on g9 (fun _ h => h) (fun b hb => Below.heap_setCell _ _ _ _ (by simp; omega)) (fun b h1 _ _ => Below.heap_setCell _ _ _ _ (by simp; omega));have hsz : (w'.setCell ⟨k12, 2, none⟩ (.slice na M.length nc)).heap.size = w'.heap.size := by simp [World.setCell]
   have G6 : Hid (RepPr (fun b => b < (w'.setCell ⟨k12, 2, none⟩ (.slice na M.length nc)).heap.size ∧ b ≠ k12) (w'.setCell ⟨k12, 2, none⟩ (.slice na M.length nc)) ⟨q.decls, q.facts, M⟩ (.slice d0 q.decls.length d1) (.slice f0 q.facts.length f1) (.slice na M.length nc)) := by
    have hs := hg.size;exact ⟨RepDes.on (fun b hb => ⟨by omega, by omega⟩) keep G5.out.1, RepFas.on (fun b hb => ⟨by omega, by omega⟩) keep G5.out.2.1, OwnK.slg' ho (fun b hb => ⟨by omega, by omega⟩) (fun b h1 h2 => ⟨h2, by omega⟩) hml⟩
   have B6 : Hid (Below W.heap.size W (w'.setCell ⟨k12, 2, none⟩ (.slice na M.length nc))) := Below.setCell (p := ⟨k12, 2, none⟩) (Below.trans B5.out (hg.mono (show W.heap.size ≤ w5.heap.size by omega))) (by simp; omega) _;have H6 : Hid (∀ b, b < w5.heap.size → b ≠ k12 → (w'.setCell ⟨k12, 2, none⟩ (.slice na M.length nc)).heap[b]? = w5.heap[b]?) := fun b h1 h2 => (Below.heap_setCell _ _ _ _ (by simpa using h2)).trans (hg.block b h1)
   have HS6 : Hid (w5.heap.size ≤ (w'.setCell ⟨k12, 2, none⟩ (.slice na M.length nc)).heap.size) := by show _ ≤ _; rw [hsz]; exact hg.size
   have X6 : Hid (BoxPr (w'.setCell ⟨k12, 2, none⟩ (.slice na M.length nc)) k8 (.slice d0 q.decls.length d1) (.slice f0 q.facts.length f1) (.slice (some ⟨rb, ro, none⟩) q.rules.length rc)) := (H6.out k8 (by omega) (by omega)).trans X5.out;have G6q : Hid (RepPr (fun b => b < k8) (w'.setCell ⟨k12, 2, none⟩ (.slice na M.length nc)) q (.slice d0 q.decls.length d1) (.slice f0 q.facts.length f1) (.slice (some ⟨rb, ro, none⟩) q.rules.length rc)) := RepPr.on (fun _ h => h) (fun b hb => keep b hb) G5.out;have HM := Lib.hid hM;clear hM hml hy hK hWK keep ho hsz hg g9 o0 o1 o2 z2 RR5 G5 X5 Y5 B5;generalize (w'.setCell ⟨k12, 2, none⟩ (.slice na M.length nc)) = w6 at *;obtain ⟨o0, o1, o2⟩ := X6.out.cells;have HK12 : Hid (k8 < k12 ∧ k12 < w6.heap.size) := by show _ ∧ _; have := K5.out; have := HS6.out; omega
   go_wp2_with fail
   refine (strata_any q (fun b => b < k8) w6 _ _ _ (fun b hb => Nat.lt_trans hb (Nat.lt_trans HK12.out.1 HK12.out.2)) G6q.out).mono ?_;intro e w7 hs;obtain ⟨La, ca, va', rfl, hla, hra, hb⟩ := strata_rep hs;have Y7 := Lib.hid (Y6.out.on hb);have G7 : Hid (RepPr (fun b => b < w7.heap.size) w7 ⟨q.decls, q.facts, M⟩ (.slice d0 q.decls.length d1) (.slice f0 q.facts.length f1) (.slice na M.length nc)) := RepPr.on (fun b hb' => Nat.lt_of_lt_of_le hb'.1 hb.size) (fun b hb' => hb.block b hb'.1) G6.out;have B7 := Lib.hid (Below.step B6.out hb);have HLA := Lib.hid hla; have HRA := Lib.hid hra
   clear hs hla hra hb o0 o1 o2;obtain ⟨o0, o1, o2⟩ := Y7.out.cells;go_wp2_with fail
   refine (strata_any ⟨q.decls, q.facts, M⟩ (fun b => b < w7.heap.size) w7 _ _ _ (fun b hb => hb) G7.out).mono ?_;intro e w8 hs;obtain ⟨Lb, cb, vb', rfl, hlb, hrb, hb⟩ := strata_rep hs
   have hmm : (∀ r, r ∈ M ↔ r ∈ q.rules) ∧ M.length = q.rules.length := by
    rw [← HM.out];refine ⟨fun r => ?_, ?_⟩
    ·conv => rhs; rw [← List.take_append_drop k q.rules]
     rw [List.mem_append, List.mem_append]; exact or_comm
    ·rw [List.length_append, List.length_drop, List.length_take]; have := HKL.out; omega
   obtain ⟨hll, hcc⟩ := strata_turned HLP.out hmm.1 hmm.2 HRA.out hrb;subst hll;have HA : Hid (RepIs (fun b => b < w8.heap.size) w8 La va') := RepIs.on (fun b hb' => Nat.lt_of_lt_of_le hb'.2 hb.size) (fun b hb' => hb.block b hb'.2) HLA.out;have HB : Hid (RepIs (fun b => b < w8.heap.size) w8 La vb') := RepIs.on (fun b hb' => hb'.2) (fun _ _ => rfl) hlb;have B8 := Lib.hid (Below.step B7.out hb);have HCC : Hid (((ca == 0) == (cb == 0)) = true) := by show _ = _; rw [hcc]; simp
   clear hs hlb hrb hb hmm hcc o0 o1 o2;go_wp2_with fail
   refine (ints_any La La (fun b => b < w8.heap.size) w8 _ _ (fun _ h => h) HA.out HB.out).mono ?_;rintro e w9 ⟨rfl, hb⟩;have B9 := Lib.hid (Below.step B8.out hb);rw [show (La == La) = true by simp];have hfin := HCC.out;clear hb;go_wp2_with fail
   go_ret
   exact ⟨rfl, B9.out⟩
end Go.Proofs.YtcmlojigcgihbaaGreat.strataOrder
namespace Go.Proofs.YtcmlojigcgihbaaGreat
open Go.ChangeShapes Go.WideShapes Go.ChangeAt Go.RowKit Go.Deep Go.Joins
theorem cellsInt : Tryz.prog.cellsOf 3 = 1 := by kernel_rfl
theorem i64_wf {n : Int} (h : (Lit.int .i64 n).wf = true) : I64 n := bounds_i64 h
section
variable {H : Type} {enc : TypeId × Value → H} {W : World}
theorem weightsAll_mem {P : Program} {e : TypeId} {ds : List (DataW H)} {d : DataW H} (h : d ∈ ds) (n : Nat) (hn : n ∈ d.weights P e) : n ∈ DataW.weightsAll P e ds := by
 induction ds with
 | nil => cases h
 | cons x r ih =>
  rw [DataW.weightsAll, List.mem_append];rcases List.mem_cons.1 h with rfl | h
  ·exact Or.inl hn
  ·exact Or.inr (ih h)
def Fits (P : Program) (t : TypeId) (d : DataW H) : Prop := ∀ n ∈ d.weights P t, n ≤ reachBytes
theorem cell_lt {w : World} {a : Addr} {v : Value} (h : w.cell? a = some v) : a.block < w.heap.size := by
 by_cases hlt : a.block < w.heap.size
 ·exact hlt
 ·have hn : w.heap[a.block]? = none := by simp; omega
  simp [World.cell?, hn] at h
theorem sizeOf_mem {D : Nat → DataW H} {len i : Nat} (h : i < len) {sp : List (DataW H)} : SizeOf.sizeOf (D i) < SizeOf.sizeOf (DataW.slice ((List.range len).map D) sp) := by
 have := List.sizeOf_lt_of_mem (List.mem_map_of_mem (f := D) (List.mem_range.2 h));simp only [DataW.slice.sizeOf_spec]
 omega
set_option maxRecDepth 100000 in
end
end Go.Proofs.YtcmlojigcgihbaaGreat
namespace Go.Proofs.YtcmlojigcgihbaaGreat
open Go.ChangeShapes Go.WideShapes Go.ChangeAt Go.RowKit
theorem own : ownKnob Tryz.prog.godebug = none := by kernel_rfl
theorem laidOut : laidOutB Tryz.prog = true := by kernel_rfl
noncomputable def plainWorld (os : Os) : World := World.holding Tryz.prog os ⟨#[], #[], []⟩
section
variable {H : Type} {enc : TypeId × Value → H}
theorem trodAll_below {W W' : World} (hb : Below W.heap.size W W') : ∀ (ts : List TypeId) (vs : List Value) (ds : List (DataW H)) (ps : List MemPlace), DataW.TrodAll enc Tryz.prog W 0 (fun _ => true) true ts vs ds ps →
  (∀ t ∈ ts, Tryz.prog.readableRec t = true ∧ t < Tryz.prog.types.size) → (∀ x ∈ ps, x.block < W.heap.size) → DataW.TrodAll enc Tryz.prog W' 0 (fun b => decide (b < W.heap.size)) true ts vs ds ps
 | [], [], [], ps, h, _, _ => h
 | t :: ts, v :: vs, d :: ds, ps, h, ht, hp => by
  obtain ⟨p, q, h1, h2, rfl⟩ := h;obtain ⟨r1, r2⟩ := ht t (by simp);exact ⟨p, q, Below.trod laidOut r1 r2 h1 hb (fun x hx => hp x (by simp [hx])), trodAll_below hb ts vs ds q h2 (fun t' h' => ht t' (by simp [h'])) (fun x hx => hp x (by simp [hx])), rfl⟩
 | [], _ :: _, _, _, h, _, _ => by cases h
 | _ :: _, [], _, _, h, _, _ => by cases h
 | [], [], _ :: _, _, h, _, _ => by cases h
 | _ :: _, _ :: _, [], _, h, _, _ => by cases h
theorem law_post {fn : Func} {s : ChangeSpec} {W W' : World} {args : Array Value} {ds gs : List (DataW H)} {before : List MemPlace}
  (hvars : s.vars = []) (hres : fn.resultTypes = #[4]) (hread : ∀ t ∈ fn.params.toList, Tryz.prog.readableRec t = true ∧ t < Tryz.prog.types.size)
  (hW : DataW.Whole enc Tryz.prog fn.params.toList s.vars false W args.toList ds gs before)
  (hs : s.fn H (ds ++ gs) = { results := [.lit (.bool true)], args := ds })
  (hb : Below W.heap.size W W') : s.post enc Tryz.prog fn false true false false W args (.bool true) W' := by
 have hW' := hW;obtain ⟨p, q, hA, hV, rfl, hfz, hnd⟩ := hW;rw [hvars] at hV;obtain ⟨rfl, rfl⟩ := trodVars_none hV;refine ⟨ds, [], p ++ [], [], p, [], hW', ?_, ?_, ?_, hb.frame _, fun h => by cases h⟩
 ·rw [hres, hs]
  exact trodAll_cons_mk (shut_bool Tryz.underlying4 _) trodAll_mk0
 ·rw [hs]
  exact trodAll_below hb _ _ _ _ hA hread (fun x hx => hW'.lt x (by simp [hx]))
 ·rw [hs, hvars]
  rfl
theorem fits_cons {t : TypeId} {ts : List TypeId} {d : DataW H} {ds : List (DataW H)} (h : (DataW.weightsEach Tryz.prog (t :: ts) (d :: ds)).all (· ≤ reachBytes) = true) :
  Fits Tryz.prog t d ∧ (DataW.weightsEach Tryz.prog ts ds).all (· ≤ reachBytes) = true := by
 rw [DataW.weightsEach, List.all_append, Bool.and_eq_true] at h;exact ⟨fun n hn => by simpa using (List.all_eq_true.1 h.1) n hn, h.2⟩
end
end Go.Proofs.YtcmlojigcgihbaaGreat
namespace Go.Proofs.YtcmlojigcgihbaaGreat
open Go.ChangeShapes Go.WideShapes Go.ChangeAt Go.RowKit Go.Deep Go.Joins
section
variable {H : Type} {enc : TypeId × Value → H} {W : World}
theorem fits_slice {st et : TypeId} {bytes : Nat} (hu : Tryz.prog.underlying st = some (.slice et)) (hb : Tryz.prog.bytesOf et = bytes) {elems spare : List (DataW H)} (h : Fits Tryz.prog st (.slice elems spare)) : (elems.length + spare.length) * bytes ≤ 140737488351232 ∧ ∀ d ∈ elems, Fits Tryz.prog et d := by
 simp only [Fits, DataW.weights, hu, hb] at h
 refine ⟨h _ (List.mem_cons_self), fun d hd n hn => h n (List.mem_cons_of_mem _ (List.mem_append_left _ (weightsAll_mem hd n hn)))⟩
set_option maxRecDepth 100000 in
theorem slg_of_trod {α : Type} {st et : TypeId} {n bytes : Nat} (R : α → (Nat → Value) → Prop) (x0 : α) (hu : Tryz.prog.underlying st = some (.slice et)) (hc : Tryz.prog.cellsOf et = n) (hb : Tryz.prog.bytesOf et = bytes) (hn : 0 < n)
  (d : DataW H) (fuel : Nat) (v : Value) (ps : List MemPlace) (h : DataW.trod enc Tryz.prog W 0 (fun _ => true) true fuel st [v] = some (d, ps)) (hf : Fits Tryz.prog st d)
  (hel : ∀ (d' : DataW H) (fuel' : Nat) (cs : List Value) (ps' : List MemPlace), SizeOf.sizeOf d' < SizeOf.sizeOf d → DataW.trod enc Tryz.prog W 0 (fun _ => true) true fuel' et cs = some (d', ps') → Fits Tryz.prog et d' → ∃ (x : α) (c : Nat → Value), (∀ j, j < n → cs[j]? = some (c j)) ∧ R x c) :
  ∃ l, SlG (fun k => k < W.heap.size) W n bytes R l v ∧ l.length * bytes ≤ 140737488351232 := by
 rcases open_slice hu h with ⟨hcs, hx⟩ | ⟨a, len, cap, mm, nf, D, Pl, hcs, _, hl, hm, hmm, hx, hall⟩
 ·simp only [List.cons.injEq, and_true] at hcs
  subst hcs;exact ⟨[], ⟨none, 0, 0, 0, rfl, Nat.le_refl _, by simp, fun h => by omega, fun h => by simp at h, fun i hi => by simp at hi⟩, by simp⟩
 ·simp only [List.cons.injEq, and_true] at hcs
  subst hcs;simp only [if_true] at hmm
  subst hmm;simp only [Prod.mk.injEq] at hx
  obtain ⟨hd, _⟩ := hx;rw [hc] at hall;have hfv := hf;rw [hd] at hfv;obtain ⟨hcap, hfe⟩ := fits_slice hu hb hfv
  have hcap' : mm * bytes ≤ 140737488351232 := by
   simp only [List.length_map, List.length_range] at hcap
   have : len + (mm - len) = mm := by omega
   rw [this] at hcap;exact hcap
  have hsz : ∀ i, i < len → SizeOf.sizeOf (D i) < SizeOf.sizeOf d := fun i hi => by rw [hd]; exact sizeOf_mem hi
  have hspot : 0 < mm → a.spot = none := fun h0 => by
   obtain ⟨cs', g1, g2⟩ := hall 0 h0;obtain ⟨_, hlen, hcell⟩ := World.cells?_some g1;have hc0 : cs'[0]? = some (cs'[0]'(by omega)) := List.getElem?_eq_getElem _;have := World.cell?_spot ((hcell 0 hn).trans hc0)
   simpa [Addr.add] using this
  have key : ∀ i : Nat, ∃ p : α × (Nat → Value), i < len → (∀ j, j < n → W.cell? ⟨a.block, a.off + i * n + j, none⟩ = some (p.2 j)) ∧ R p.1 p.2 := by
   intro i
   by_cases hi : i < len
   ·obtain ⟨cs', g1, g2⟩ := hall i (by omega)
    obtain ⟨x, c, hcj, hr⟩ := hel (D i) nf cs' (Pl i) (hsz i hi) g2 (hfe _ (List.mem_map_of_mem (List.mem_range.2 hi)));obtain ⟨_, hlen, hcell⟩ := World.cells?_some g1;refine ⟨(x, c), fun _ => ⟨fun j hj => ?_, hr⟩⟩;have hs := hspot (by omega);have e := (hcell j hj).trans (hcj j hj);obtain ⟨ab, ao, sp⟩ := a;simp only at hs
    subst hs;have add0 : ∀ (b o j : Nat), ((⟨b, o, none⟩ : Addr).add j) = ⟨b, o + j, none⟩ := by intro b o j; unfold Addr.add; split <;> simp_all
    rw [add0, add0] at e;exact e
   ·exact ⟨(x0, fun _ => undef), fun h => absurd h hi⟩
  obtain ⟨X, hX⟩ := Classical.axiomOfChoice key;have hby : len * bytes ≤ mm * bytes := Nat.mul_le_mul_right _ hl;refine ⟨(List.range len).map (fun i => (X i).1), ⟨some a, a.block, a.off, mm, by simp, by simpa using hl, by simp; omega, fun h0 => ?_, fun h0 => ?_, fun i hi => ?_⟩, by simp; omega⟩
  ·have := hspot h0
   obtain ⟨b, o, sp⟩ := a;simp at this
   subst this;rfl
  ·simp at h0
   obtain ⟨q, _⟩ := hX 0 (by omega);exact cell_lt (a := ⟨a.block, _, none⟩) (q 0 hn)
  ·have hi' : i < len := by simpa using hi
   obtain ⟨q, hr⟩ := hX i hi';exact ⟨_, q, by rw [List.getElem_map, List.getElem_range]; exact hr⟩
def at7o (c0 c1 c2 c3 c4 c5 c6 : Value) : Nat → Value
 | 0 => c0 | 1 => c1 | 2 => c2 | 3 => c3 | 4 => c4 | 5 => c5 | _ => c6
end
end Go.Proofs.YtcmlojigcgihbaaGreat
namespace Go.Proofs.YtcmlojigcgihbaaGreat
open Go.ChangeShapes Go.WideShapes Go.ChangeAt Go.RowKit Go.Deep Go.Joins
theorem cellsRw : Tryz.prog.cellsOf 64 = 6 := by kernel_rfl
theorem bytesRw : Tryz.prog.bytesOf 64 = 48 := by kernel_rfl
theorem cellsRws : Tryz.prog.cellsOf 57 = 1 := by kernel_rfl
theorem bytesRws : Tryz.prog.bytesOf 57 = 24 := by kernel_rfl
theorem cellsN4 : Tryz.prog.cellsOf 62 = 4 := by kernel_rfl
section
variable {H : Type} {enc : TypeId × Value → H} {W : World}
set_option maxRecDepth 100000 in
theorem rw_of_trod (d : DataW H) (fuel : Nat) (cs : List Value) (ps : List MemPlace) (h : DataW.trod enc Tryz.prog W 0 (fun _ => true) true fuel 64 cs = some (d, ps)) :
  ∃ (x : Rw) (c : Nat → Value), (∀ j, j < 6 → cs[j]? = some (c j)) ∧ RepRw (fun k => k < W.heap.size) W x c := by
 obtain ⟨y0, y1, y2, n, hx, hlen, h0, h1, h2⟩ := trod_struct3 Tryz.underlying64 h;rw [cellsRw] at hlen
 match cs, hlen with
 | [c0, c1, c2, c3, c4, c5], _ =>
  simp [cellsInt] at h0
  simp [cellsInt] at h1
  simp [cellsN4] at h2
  obtain ⟨k, e0, r0, w0⟩ := DataW.trod_int Tryz.underlying3 h0;obtain ⟨s, e1, r1, w1⟩ := DataW.trod_int Tryz.underlying3 h1;obtain ⟨z0, z1, z2, z3, n', hx', q0, q1, q2, q3⟩ := trod_array4 Tryz.underlying62 cellsInt h2;obtain ⟨n0, f0, r2, w2⟩ := DataW.trod_int Tryz.underlying3 q0;obtain ⟨n1, f1, r3, w3⟩ := DataW.trod_int Tryz.underlying3 q1;obtain ⟨n2, f2, r4, w4⟩ := DataW.trod_int Tryz.underlying3 q2;obtain ⟨n3, f3, r5, w5⟩ := DataW.trod_int Tryz.underlying3 q3;simp at e0 e1 f0 f1 f2 f3
  subst e0 e1 f0 f1 f2 f3
  exact ⟨⟨k, s, n0, n1, n2, n3⟩, at7o (.int .i64 k) (.int .i64 s) (.int .i64 n0) (.int .i64 n1) (.int .i64 n2) (.int .i64 n3) (.int .i64 n3), fun j hj => match j, hj with
   | 0, _ => rfl | 1, _ => rfl | 2, _ => rfl | 3, _ => rfl | 4, _ => rfl | 5, _ => rfl, rfl, rfl, rfl, rfl, rfl, rfl, i64_wf w0, i64_wf w1, i64_wf w2, i64_wf w3, i64_wf w4, i64_wf w5⟩
theorem rws_of_trod (d : DataW H) (fuel : Nat) (v : Value) (ps : List MemPlace) (h : DataW.trod enc Tryz.prog W 0 (fun _ => true) true fuel 57 [v] = some (d, ps)) (hf : Fits Tryz.prog 57 d) :
  ∃ l, RepRws (fun k => k < W.heap.size) W l v := by
 obtain ⟨l, hl, -⟩ := slg_of_trod (RepRw (fun k => k < W.heap.size) W) ⟨0, 0, 0, 0, 0, 0⟩ Tryz.underlying57 cellsRw bytesRw (by omega) d fuel v ps h hf
  (fun d' fuel' cs' ps' _ h' _ => rw_of_trod d' fuel' cs' ps' h')
 exact ⟨l, hl⟩
set_option maxRecDepth 100000 in
theorem open_rwss {base : Nat} {v : Value} {d : DataW H} {p : List MemPlace} (hv : Value.okWide Tryz.prog W .any base 22 v) (h : DataW.Trod enc Tryz.prog W 0 (fun _ => true) true 22 v d p) (hf : Fits Tryz.prog 22 d) :
  ∃ l, RepRwss (fun k => k < W.heap.size) W l v := by
 obtain ⟨a0, len, cap, rfl⟩ := okWide_slice Tryz.underlying22 hv;obtain ⟨fuel, hf'⟩ := h
 obtain ⟨l, hl, -⟩ := slg_of_trod (fun x c => RepRws (fun k => k < W.heap.size) W x (c 0)) [] Tryz.underlying22 cellsRws bytesRws (by omega) d fuel _ p (by simpa [Value.cells] using hf') hf
  (fun d' fuel' cs' ps' hs h' hf'' => by
   have hlen : cs'.length = 1 := by
    rcases open_slice Tryz.underlying57 h' with ⟨hcs, -⟩ | ⟨a, len, cap, mm, nf, D, Pl, hcs, -⟩ <;> rw [hcs] <;> rfl
   match cs', hlen with
   | [c], _ =>
    obtain ⟨l, hl⟩ := rws_of_trod d' fuel' c ps' h' hf''
    exact ⟨l, fun _ => c, fun j hj => match j, hj with
     | 0, _ => rfl, hl⟩)
 exact ⟨l, hl⟩
end
end Go.Proofs.YtcmlojigcgihbaaGreat
