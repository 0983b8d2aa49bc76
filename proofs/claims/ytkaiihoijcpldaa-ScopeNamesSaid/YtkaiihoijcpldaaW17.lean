/-
  ScopeLess, the walk: for any raw rules and facts and any number the law returns true.
-/
import Derived.Test.YtkaiihoijcpldaaW16
import Derived.Test.YtkaiihoijcpldaaW04
import Derived.Test.YtkaiihoijcpldaaW01
import Derived.Test.YtkaiihoijcpldaaRows
import Derived.Test.YtkaiihoijcpldaaW02
import Derived.ProofKit
import Derived.Lib.SmallJoins
import Derived.Deep.Slices
import Derived.OpenShut
import Derived.Deep.DeepHandedRow
import Derived.Deep.Strs
namespace Go.Proofs.Ytkaiihoijcpldaa.scopeLess
open Go.RowKit

def Less8 (B k8 k12 k rb ro rc : Nat) (q : Pr) (ph : Bool) (w : World) : Nat → Value → Prop
  | 0, v => v = .pointer (some ⟨k8, 2, none⟩)
  | 1, v => v = .slice (some ⟨rb, ro, none⟩) q.rules.length rc
  | 2, v => v = .int .i64 (k : Int)
  | 3, v => v = .slice (some ⟨rb, ro, none⟩) k rc
  | 4, v => ph = false → k8 ≤ w.heap.size ∧ OwnK kdRu (fun b => b < k8) w B (q.rules.take k) v
  | 5, v => v = .pointer (some ⟨k8, 2, none⟩)
  | 6, v => v = .slice (some ⟨rb, ro, none⟩) q.rules.length rc
  | 7, v => v = .int .i64 (k : Int)
  | 8, v => v = .int .i64 ((k : Int) + 1)
  | 9, v => v = .slice (if rc = k + 1 then some ⟨rb, ro, none⟩ else some ⟨rb, ro + (k + 1) * 6, none⟩) (q.rules.length - (k + 1)) (rc - (k + 1))
  | 10, v => ph = true → OwnK kdRu (fun b => b < k8) w B (q.rules.take k ++ q.rules.drop (k + 1)) v
  | 11, v => v = .pointer (some ⟨k12, 2, none⟩)
  | _ + 12, _ => True
theorem Less8.stay (B k8 k12 k rb ro rc : Nat) (q : Pr) {w w' : World} (hb : Below w.heap.size w w') : ∀ i v, Less8 B k8 k12 k rb ro rc q false w i v → Less8 B k8 k12 k rb ro rc q false w' i v
  | 0, _, h => h
  | 1, _, h => h
  | 2, _, h => h
  | 3, _, h => h
  | 4, _, h => fun e => (fun h => ⟨Nat.le_trans h.1 hb.size, OwnK.on h.2 (fun _ h => h) (fun j hj => hb.block j (Nat.lt_of_lt_of_le hj h.1)) (fun j _ hj _ => hb.block j hj)⟩) (h e)
  | 5, _, h => h
  | 6, _, h => h
  | 7, _, h => h
  | 8, _, h => h
  | 9, _, h => h
  | 10, _, _ => fun e => absurd e (by decide)
  | 11, _, h => h
  | _ + 12, _, _ => trivial
theorem Less8.pass (B k8 k12 k rb ro rc : Nat) (q : Pr) {w w' : World} : ∀ i v, i ≠ 10 → Less8 B k8 k12 k rb ro rc q false w i v → Less8 B k8 k12 k rb ro rc q true w' i v
  | 0, _, _, h => h
  | 1, _, _, h => h
  | 2, _, _, h => h
  | 3, _, _, h => h
  | 4, _, _, h => fun e => absurd e (by decide)
  | 5, _, _, h => h
  | 6, _, _, h => h
  | 7, _, _, h => h
  | 8, _, _, h => h
  | 9, _, _, h => h
  | 10, _, hne, _ => absurd rfl hne
  | 11, _, _, h => h
  | _ + 12, _, _, _ => trivial

theorem rulesErr_bd (ds : List De) : ∀ (l : List Ru) (i : Nat), -1 ≤ (rulesErr ds l i).2 ∧ (rulesErr ds l i).2 ≤ (i : Int) + l.length
  | [], i => by simp [rulesErr] <;> omega
  | r :: l, i => by
    rw [rulesErr]
    have h := rulesErr_bd ds l (i + 1)
    split
    · simp only [List.length_cons]; omega
    · simp; omega
theorem check_bd (q : Pr) : -1 ≤ (checkZ q).2 ∧ (checkZ q).2 ≤ (q.rules.length : Int) := by
  rw [checkZ]
  split
  · split
    · have := rulesErr_bd q.decls q.rules 0; simp at this ⊢ <;> omega
    · simp <;> omega
  · simp <;> omega
set_option maxRecDepth 100000 in
set_option maxHeartbeats 8000000 in
theorem walk (rules : List (List Rw)) (facts : List Rw) (which : Int) (W : World) (va vb : Value) (ga : RepRwss (fun k => k < W.heap.size) W rules va) (gb : RepRws (fun k => k < W.heap.size) W facts vb) (hw : I64 which) :
    Calls Try.prog 3 #[va, vb, .int .i64 which] W fun e W' => e = .returned (.bool true) ∧ Below W.heap.size W W' := by
  have GA := Lib.hid ga; have GB := Lib.hid gb; have HW := Lib.hid hw
  clear ga gb hw
  go_enter Try.func3, Try.ntmps3
  go_wp2_with fail
  refine (awake6_any W).mono ?_
  rintro e w1 ⟨rfl, hb⟩
  have B1 := Lib.hid hb
  clear hb
  go_wp2_with fail
  refine (program_any rules facts (fun k => k < W.heap.size) w1 va vb (fun k hk => Nat.lt_of_lt_of_le hk B1.out.size) (SlG.on (fun _ h => h) (fun k hk => B1.out.block k hk) (fun x _ c h => SlG.on (fun _ h => h) (fun k hk => B1.out.block k hk) (fun _ _ _ h => h) h) GA.out) (SlG.on (fun _ h => h) (fun k hk => B1.out.block k hk) (fun _ _ _ h => h) GB.out)).mono ?_
  rintro e w2 ⟨v0, v1, v2, rfl, hrep, hb⟩
  have HQR := Lib.hid (right_prog rules facts)
  have HLN : Hid ((progZ rules facts).rules.length ≤ 6) := by show _ ≤ _; show (rulesTo rules _).length ≤ 6; rw [rulesTo_len]; omega
  generalize progZ rules facts = q at *
  obtain ⟨d0, d1, rfl⟩ := SlG.form hrep.1
  obtain ⟨f0, f1, rfl⟩ := SlG.form hrep.2.1
  obtain ⟨r0, r1, rfl⟩ := SlG.form hrep.2.2
  have HRP := Lib.hid hrep; have B2 := Lib.hid (Below.step B1.out hb)
  clear hrep hb B1 GA GB
  go_upto_region 3 with fail
  have mk := boxPr_new w2 (.slice d0 q.decls.length d1) (.slice f0 q.facts.length f1) (.slice r0 q.rules.length r1)
  have da := below_alloc w2 (.cells #[.slice d0 q.decls.length d1, .slice f0 q.facts.length f1, .slice r0 q.rules.length r1] 29)
  have sa := World.size_alloc w2 (.cells #[.slice d0 q.decls.length d1, .slice f0 q.facts.length f1, .slice r0 q.rules.length r1] 29)
  generalize w2.alloc (.cells #[.slice d0 q.decls.length d1, .slice f0 q.facts.length f1, .slice r0 q.rules.length r1] 29) = w3 at *
  have GQ : Hid (RepPr (fun k => k < w2.heap.size) w3 q (.slice d0 q.decls.length d1) (.slice f0 q.facts.length f1) (.slice r0 q.rules.length r1)) := RepPr.on (fun k hk => hk.2) (fun k hk => da.block k hk.2) HRP.out
  have B3 := Lib.hid (Below.step B2.out da)
  obtain ⟨k8, hk8⟩ : ∃ k, w2.heap.size = k := ⟨_, rfl⟩
  rw [hk8] at mk GQ sa ⊢
  have X3 := Lib.hid mk
  have K3 : Hid (k8 < w3.heap.size) := by show _ < _; omega
  have HWK : Hid (W.heap.size ≤ k8) := by show _ ≤ _; rw [← hk8]; exact B2.out.size
  clear mk da sa hk8 HRP B2
  obtain ⟨o0, o1, o2⟩ := X3.out.cells
  go_wp2_with fail
  refine (check_any q (fun k => k < k8) w3 _ _ _ (fun k hk => Nat.lt_trans hk K3.out) GQ.out).mono ?_
  rintro e w4 ⟨rfl, hb⟩
  have X4 := Lib.hid (X3.out.on hb); have B4 := Lib.hid (Below.step B3.out hb)
  have K4 : Hid (k8 < w4.heap.size) := Nat.lt_of_lt_of_le K3.out hb.size
  have G4 : Hid (RepPr (fun k => k < k8) w4 q (.slice d0 q.decls.length d1) (.slice f0 q.facts.length f1) (.slice r0 q.rules.length r1)) := RepPr.on (fun _ h => h) (fun k hk => hb.block k (Nat.lt_trans hk K3.out)) GQ.out
  clear hb GQ X3 B3 K3 o0 o1 o2
  obtain ⟨o0, o1, o2⟩ := X4.out.cells
  have HLE := Lib.hid (fun k hk => check_less q HQR.out k hk)
  have HE0 : Hid (q.rules.length = 0 → (checkZ q).2 = -1) := by
    intro h
    have hl : q.rules = [] := List.length_eq_zero_iff.1 h
    rw [checkZ]
    split
    · split
      · rw [hl, rulesErr]
      · rfl
    · rfl
  have HCI : Hid (I64 (checkZ q).1 ∧ I64 (checkZ q).2 ∧ (checkZ q).1 = 0 → True) := fun _ => trivial
  clear HCI
  by_cases hz : q.rules.length = 0
  · have hz1 : ((q.rules.length : Int) == 0) = true := by simp [hz]
    have hn := HE0.out hz
    have hn1 : ((checkZ q).2 == -1) = true := by rw [hn]; rfl
    cases he : (checkZ q).1 == 0
    all_goals
      go_wp2_with fail
      go_ret
      exact ⟨rfl, B4.out⟩
  · have hz1 : ((q.rules.length : Int) == 0) = false := by simp; exact fun e => hz (by rw [e]; rfl)
    have hzp : 0 < q.rules.length := by omega
    clear HE0
    go_wp2_with fail
    refine (pick6_any which (q.rules.length : Int) _ HW.out (by omega) (by have := HLN.out; omega)).mono ?_
    rintro e w' ⟨rfl, rfl⟩
    have hpb := pickZ_bd which (q.rules.length : Int) (by omega)
    obtain ⟨k, hk⟩ := Int.eq_ofNat_of_zero_le hpb.1
    rw [hk] at hpb ⊢
    have HKL : Hid (k < q.rules.length) := by show _ < _; omega
    clear hpb hk hz hz1
    go_upto_region 8 with fail
    have mk := boxPr_new w4 (.slice d0 q.decls.length d1) (.slice f0 q.facts.length f1) (.slice r0 q.rules.length r1)
    have da := below_alloc w4 (.cells #[.slice d0 q.decls.length d1, .slice f0 q.facts.length f1, .slice r0 q.rules.length r1] 29)
    have sa := World.size_alloc w4 (.cells #[.slice d0 q.decls.length d1, .slice f0 q.facts.length f1, .slice r0 q.rules.length r1] 29)
    generalize w4.alloc (.cells #[.slice d0 q.decls.length d1, .slice f0 q.facts.length f1, .slice r0 q.rules.length r1] 29) = w5 at *
    have G5 : Hid (RepPr (fun k => k < k8) w5 q (.slice d0 q.decls.length d1) (.slice f0 q.facts.length f1) (.slice r0 q.rules.length r1)) := RepPr.on (fun _ h => h) (fun k hk => da.block k (Nat.lt_trans hk K4.out)) G4.out
    have X5 := Lib.hid (X4.out.on da)
    have B5 := Lib.hid (Below.step B4.out da)
    obtain ⟨k12, hk12⟩ : ∃ k, w4.heap.size = k := ⟨_, rfl⟩
    rw [hk12] at mk sa K4 ⊢
    have Y5 := Lib.hid mk
    have K5 : Hid (k8 ≤ w5.heap.size ∧ k8 < k12 ∧ k12 < w5.heap.size) := by show _ ∧ _ ∧ _; have := K4.out; omega
    clear mk da sa hk12 G4 X4 B4 K4 o0 o1 o2 hzp
    obtain ⟨-, hlc, rb, ro, hra, -⟩ := SlG.at G5.out.2.2 k HKL.out
    subst hra
    have RR5 : Hid (RepRus (fun b => b < k8) w5 q.rules (.slice (some ⟨rb, ro, none⟩) q.rules.length r1)) := G5.out.2.2
    have HK1 : Hid ((0 : Int) ≤ (k : Int)) := Int.natCast_nonneg k
    have HK2 : Hid ((k : Int) ≤ (r1 : Int)) := by show _ ≤ _; have := HKL.out; omega
    have HK3 : Hid ((r1 : Int) ≤ (r1 : Int)) := Int.le_refl _
    have HK4 : Hid (True) := trivial
    have HK5 : Hid (IntKind.i64.wrap ((k : Int) + 1) = (k : Int) + 1) := by show _ = _; have := HKL.out; have := HLN.out; rw [IntKind.wrap_i64]; omega
    have HK6 : Hid ((0 : Int) ≤ (k : Int) + 1) := by show _ ≤ _; omega
    have HK7 : Hid ((k : Int) + 1 ≤ (q.rules.length : Int)) := by show _ ≤ _; have := HKL.out; omega
    have HK8 : Hid ((q.rules.length : Int) ≤ (r1 : Int)) := by show _ ≤ _; omega
    have HK9 : Hid (((k : Int) + 1).toNat = k + 1) := by show _ = _; omega
    clear hlc
    refine wp_region_factsP (by rfl) 117 (by rfl) (by kernel_rfl) 10 (fun q => q == 0 || q == 1 || q == 2 || q == 3 || q == 4 || q == 5 || q == 6 || q == 7 || q == 8 || q == 9) (by kernel_rfl) (fun ph wz iz vz => Less8 w5.heap.size k8 k12 k rb ro r1 q ph wz iz vz) (fun ph w' => if ph = true then Below w5.heap.size w5 w' else Below w5.heap.size w5 w') (Below.drew (Below.refl _ _)) ⟨?s0, ?s1, ?s2, ?s3, ?s4, ?s5, ?s6, ?s7, ?s8, ?s9, ?s10, ?s11, trivial⟩ (by rfl) ?last
    case s0 =>
      intro a w' hoff hg hdep K hK
      replace hg : Below w5.heap.size w5 w' := hg
      have h8 := off_at hoff 8 (v := .pointer (some ⟨k8, 0, none⟩)) (by kernel_rfl) rfl
      rw [if_pos (by rfl)]
      go_simp
      exact hK.out _ _ hg rfl (fun _ _ h => h)
    case s1 =>
      intro a w' hoff hg hdep K hK
      replace hg : Below w5.heap.size w5 w' := hg
      obtain ⟨v0, e0, f0⟩ := hdep 0 _ 43 (by kernel_rfl) rfl rfl
      obtain rfl : v0 = .pointer (some ⟨k8, 2, none⟩) := f0
      rw [if_pos (by rfl)]
      obtain ⟨o0, o1, o2⟩ := (X5.out.on hg).cells
      go_simp
      exact hK.out _ _ hg rfl (fun _ _ h => h)
    case s2 =>
      intro a w' hoff hg hdep K hK
      replace hg : Below w5.heap.size w5 w' := hg
      have h11 := off_at hoff 11 (v := .int .i64 (k : Int)) (by kernel_rfl) rfl
      rw [if_pos (by rfl)]
      go_simp
      exact hK.out _ _ hg rfl (fun _ _ h => h)
    case s3 =>
      intro a w' hoff hg hdep K hK
      replace hg : Below w5.heap.size w5 w' := hg
      obtain ⟨v1, e1, f1⟩ := hdep 1 _ 44 (by kernel_rfl) rfl rfl
      obtain rfl : v1 = .slice (some ⟨rb, ro, none⟩) q.rules.length r1 := f1
      obtain ⟨v2, e2, f2⟩ := hdep 2 _ 45 (by kernel_rfl) rfl rfl
      obtain rfl : v2 = .int .i64 (k : Int) := f2
      rw [if_pos (by rfl)]
      have hk1 := HK1.out; have hk2 := HK2.out; have hk3 := HK3.out; have hk4 := HK4.out
      go_simp
      exact hK.out _ _ hg rfl (fun _ _ h => h)
    case s4 =>
      intro a w' hoff hg hdep K hK
      replace hg : Below w5.heap.size w5 w' := hg
      obtain ⟨v3, e3, f3⟩ := hdep 3 _ 46 (by kernel_rfl) rfl rfl
      obtain rfl : v3 = .slice (some ⟨rb, ro, none⟩) k r1 := f3
      have hrr := (SlG.on (fun _ h => h) (fun b hb => hg.block b (Nat.lt_of_lt_of_le hb K5.out.1)) (fun x _ c h => RepRu.on (fun _ h => h) (fun b hb => hg.block b (Nat.lt_of_lt_of_le hb K5.out.1)) h) RR5.out : RepRus (fun b => b < k8) w' q.rules (.slice (some ⟨rb, ro, none⟩) q.rules.length r1))
      obtain ⟨v', w6, hrun, hown, hgr⟩ := own_many (K := kdRu) (L := []) (m := q.rules.take k) (lv := .slice none 0 0) (OwnK.nil (fun b => b < k8) w' w5.heap.size) (SlG.front hrr (by have := HKL.out; omega)) (fun b hb => ⟨Nat.lt_of_lt_of_le (Nat.lt_of_lt_of_le hb K5.out.1) hg.size, by simp [Value.ownBlock]⟩) hg.size (by rw [List.length_take]; have := HLN.out; simp; omega) 27
      refine step_append_by rfl (.const (.slice none 0 0)) (.tmp 46) 27 rfl (by simp [Act.eval]) (by simp [Act.eval, e3]) hrun ?_
      have hb : Below w'.heap.size w' w6 := ⟨hgr.os, hgr.tape, hgr.output, hgr.size, fun j hj => hgr.block j hj (by simp [Value.ownBlock])⟩
      exact hK.out _ _ (Below.step hg hb) (fun _ => ⟨Nat.le_trans K5.out.1 (Nat.le_trans hg.size hb.size), by simpa using hown⟩) (fun j u h => Less8.stay _ _ _ _ _ _ _ _ hb j u h)
    case s5 =>
      intro a w' hoff hg hdep K hK
      replace hg : Below w5.heap.size w5 w' := hg
      have h8 := off_at hoff 8 (v := .pointer (some ⟨k8, 0, none⟩)) (by kernel_rfl) rfl
      rw [if_pos (by rfl)]
      go_simp
      exact hK.out _ _ hg rfl (fun _ _ h => h)
    case s6 =>
      intro a w' hoff hg hdep K hK
      replace hg : Below w5.heap.size w5 w' := hg
      obtain ⟨v5, e5, f5⟩ := hdep 5 _ 48 (by kernel_rfl) rfl rfl
      obtain rfl : v5 = .pointer (some ⟨k8, 2, none⟩) := f5
      rw [if_pos (by rfl)]
      obtain ⟨o0, o1, o2⟩ := (X5.out.on hg).cells
      go_simp
      exact hK.out _ _ hg rfl (fun _ _ h => h)
    case s7 =>
      intro a w' hoff hg hdep K hK
      replace hg : Below w5.heap.size w5 w' := hg
      have h11 := off_at hoff 11 (v := .int .i64 (k : Int)) (by kernel_rfl) rfl
      rw [if_pos (by rfl)]
      go_simp
      exact hK.out _ _ hg rfl (fun _ _ h => h)
    case s8 =>
      intro a w' hoff hg hdep K hK
      replace hg : Below w5.heap.size w5 w' := hg
      obtain ⟨v7, e7, f7⟩ := hdep 7 _ 50 (by kernel_rfl) rfl rfl
      obtain rfl : v7 = .int .i64 (k : Int) := f7
      rw [if_pos (by rfl)]
      have hk5 := HK5.out
      go_simp
      exact hK.out _ _ hg rfl (fun _ _ h => h)
    case s9 =>
      intro a w' hoff hg hdep K hK
      replace hg : Below w5.heap.size w5 w' := hg
      obtain ⟨v6, e6, f6⟩ := hdep 6 _ 49 (by kernel_rfl) rfl rfl
      obtain rfl : v6 = .slice (some ⟨rb, ro, none⟩) q.rules.length r1 := f6
      obtain ⟨v8, e8, f8⟩ := hdep 8 _ 51 (by kernel_rfl) rfl rfl
      obtain rfl : v8 = .int .i64 ((k : Int) + 1) := f8
      rw [if_pos (by rfl)]
      have hk1 := HK6.out; have hk2 := HK7.out; have hk3 := HK8.out; have hk4 := HK9.out
      go_simp
      exact hK.out _ _ hg rfl (fun _ _ h => h)
    case s10 =>
      intro a w' hoff hg hdep K hK
      replace hg : Below w5.heap.size w5 w' := hg
      obtain ⟨v4, e4, f4⟩ := hdep 4 _ 47 (by kernel_rfl) rfl rfl
      replace f4 : k8 ≤ w'.heap.size ∧ OwnK kdRu (fun b => b < k8) w' w5.heap.size (q.rules.take k) v4 := f4 rfl
      obtain ⟨v9, e9, f9⟩ := hdep 9 _ 52 (by kernel_rfl) rfl rfl
      obtain rfl : v9 = .slice (if r1 = k + 1 then some ⟨rb, ro, none⟩ else some ⟨rb, ro + (k + 1) * 6, none⟩) (q.rules.length - (k + 1)) (r1 - (k + 1)) := f9
      have hrr := (SlG.on (fun _ h => h) (fun b hb => hg.block b (Nat.lt_of_lt_of_le hb K5.out.1)) (fun x _ c h => RepRu.on (fun _ h => h) (fun b hb => hg.block b (Nat.lt_of_lt_of_le hb K5.out.1)) h) RR5.out : RepRus (fun b => b < k8) w' q.rules (.slice (some ⟨rb, ro, none⟩) q.rules.length r1))
      have hown0 := f4.2
      obtain ⟨v', w6, hrun, hown, hgr⟩ := own_many (K := kdRu) (L := q.rules.take k) (m := q.rules.drop (k + 1)) (lv := v4) hown0 (SlG.rest hrr (show k + 1 ≤ q.rules.length by have := HKL.out; omega) (by have := HKL.out; omega)) (fun b hb => ⟨Nat.lt_of_lt_of_le (Nat.lt_of_lt_of_le hb K5.out.1) hg.size, fun e => by have := (OwnK.lies hown0 b e).1; have := K5.out.1; omega⟩) hg.size (by rw [List.length_take, List.length_drop]; have := HLN.out; omega) 27
      refine step_append_by rfl (.tmp 47) (.tmp 52) 27 rfl (by simp [Act.eval, e4]) (by simp [Act.eval, e9]) hrun ?_
      have hG2 : Below w5.heap.size w5 w6 := ⟨hgr.os.trans hg.os, hgr.tape.trans hg.tape, hgr.output.trans hg.output, Nat.le_trans hg.size hgr.size, fun j hj => (hgr.block j (Nat.lt_of_lt_of_le hj hg.size) (fun e => by have := (OwnK.lies hown0 j e.symm).1; omega)).trans (hg.block j hj)⟩
      exact hK.out _ _ hG2 (fun _ => hown) (fun j u hne h => Less8.pass _ _ _ _ _ _ _ _ j u hne h)
    case s11 =>
      intro ph a w' hoff hg hdep K hK
      have h12 := off_at hoff 12 (v := .pointer (some ⟨k12, 0, none⟩)) (by kernel_rfl) rfl
      rw [if_pos (by rfl)]
      go_simp
      exact hK.out _ _ hg rfl (fun _ _ h => h)
    case last =>
      intro a w' hoff hg hf
      replace hg : Below w5.heap.size w5 w' := hg
      obtain ⟨v0, e0, f0⟩ := hf 0 _ 43 (by decide) rfl rfl
      obtain rfl : v0 = .pointer (some ⟨k8, 2, none⟩) := f0
      obtain ⟨v1, e1, f1⟩ := hf 1 _ 44 (by decide) rfl rfl
      obtain rfl : v1 = .slice (some ⟨rb, ro, none⟩) q.rules.length r1 := f1
      obtain ⟨v2, e2, f2⟩ := hf 2 _ 45 (by decide) rfl rfl
      obtain rfl : v2 = .int .i64 (k : Int) := f2
      obtain ⟨v3, e3, f3⟩ := hf 3 _ 46 (by decide) rfl rfl
      obtain rfl : v3 = .slice (some ⟨rb, ro, none⟩) k r1 := f3
      obtain ⟨v4, e4, f4⟩ := hf 4 _ 47 (by decide) rfl rfl
      clear f4
      obtain ⟨v5, e5, f5⟩ := hf 5 _ 48 (by decide) rfl rfl
      obtain rfl : v5 = .pointer (some ⟨k8, 2, none⟩) := f5
      obtain ⟨v6, e6, f6⟩ := hf 6 _ 49 (by decide) rfl rfl
      obtain rfl : v6 = .slice (some ⟨rb, ro, none⟩) q.rules.length r1 := f6
      obtain ⟨v7, e7, f7⟩ := hf 7 _ 50 (by decide) rfl rfl
      obtain rfl : v7 = .int .i64 (k : Int) := f7
      obtain ⟨v8, e8, f8⟩ := hf 8 _ 51 (by decide) rfl rfl
      obtain rfl : v8 = .int .i64 ((k : Int) + 1) := f8
      obtain ⟨v9, e9, f9⟩ := hf 9 _ 52 (by decide) rfl rfl
      obtain rfl : v9 = .slice (if r1 = k + 1 then some ⟨rb, ro, none⟩ else some ⟨rb, ro + (k + 1) * 6, none⟩) (q.rules.length - (k + 1)) (r1 - (k + 1)) := f9
      obtain ⟨v10, e10, f10⟩ := hf 10 _ 53 (by decide) rfl rfl
      replace f10 : OwnK kdRu (fun b => b < k8) w' w5.heap.size (q.rules.take k ++ q.rules.drop (k + 1)) v10 := f10 rfl
      obtain ⟨v11, e11, f11⟩ := hf 11 _ 54 (by decide) rfl rfl
      obtain rfl : v11 = .pointer (some ⟨k12, 2, none⟩) := f11
      obtain ⟨M, hM⟩ : ∃ M, (q.rules.take k ++ q.rules.drop (k + 1)) = M := ⟨_, rfl⟩
      rw [hM] at f10
      have hml : M.length ≤ 100000 := by rw [← hM, List.length_append, List.length_take, List.length_drop]; have := HLN.out; omega
      obtain ⟨na, nc, rfl⟩ := OwnK.form f10
      have hy := Y5.out.on hg
      obtain ⟨o0, o1, o2⟩ := hy.cells
      have z2 := frozen_of_row w' k12 2 _ _ hy
      rw [if_pos (by rfl)]
      rw [hoff.sets [(43, .pointer (some ⟨k8, 2, none⟩)), (44, .slice (some ⟨rb, ro, none⟩) q.rules.length r1), (45, .int .i64 (k : Int)), (46, .slice (some ⟨rb, ro, none⟩) k r1), (47, v4), (48, .pointer (some ⟨k8, 2, none⟩)), (49, .slice (some ⟨rb, ro, none⟩) q.rules.length r1), (50, .int .i64 (k : Int)), (51, .int .i64 ((k : Int) + 1)), (52, .slice (if r1 = k + 1 then some ⟨rb, ro, none⟩ else some ⟨rb, ro + (k + 1) * 6, none⟩) (q.rules.length - (k + 1)) (r1 - (k + 1))), (53, .slice na M.length nc), (54, .pointer (some ⟨k12, 2, none⟩))] (by kernel_rfl) (by intro p hp; simp only [List.mem_cons, List.not_mem_nil, or_false] at hp; rcases hp with rfl | rfl | rfl | rfl | rfl | rfl | rfl | rfl | rfl | rfl | rfl | rfl <;> assumption)]
      clear hoff hf e0 e1 e2 e3 e4 e5 e6 e7 e8 e9 e10 e11
      simp only [List.foldl_cons, List.foldl_nil, List.setIfInBounds_toArray, List.set_cons_zero, List.set_cons_succ]
      generalize (if r1 = k + 1 then (some ⟨rb, ro, none⟩ : Option Addr) else some ⟨rb, ro + (k + 1) * 6, none⟩) = adr at *
      go_simp
      have hK := K5.out; have hWK := HWK.out
      have Y6 : Hid (BoxPr (w'.setCell ⟨k12, 2, none⟩ (.slice na M.length nc)) k12 (.slice d0 q.decls.length d1) (.slice f0 q.facts.length f1) (.slice na M.length nc)) := heap_setCell_same _ _ _ _ _ _ hy
      have keep : ∀ b, b < k8 → (w'.setCell ⟨k12, 2, none⟩ (.slice na M.length nc)).heap[b]? = w5.heap[b]? := fun b hb => (Below.heap_setCell _ _ _ _ (by simp; omega)).trans (hg.block b (by omega))
      have ho : OwnK kdRu (fun b => b < k8) (w'.setCell ⟨k12, 2, none⟩ (.slice na M.length nc)) w5.heap.size M (.slice na M.length nc) := OwnK.on f10 (fun _ h => h) (fun b hb => Below.heap_setCell _ _ _ _ (by simp; omega)) (fun b h1 _ _ => Below.heap_setCell _ _ _ _ (by simp; omega))
      have hsz : (w'.setCell ⟨k12, 2, none⟩ (.slice na M.length nc)).heap.size = w'.heap.size := by simp [World.setCell]
      have G6 : Hid (RepPr (fun b => b < (w'.setCell ⟨k12, 2, none⟩ (.slice na M.length nc)).heap.size) (w'.setCell ⟨k12, 2, none⟩ (.slice na M.length nc)) ⟨q.decls, q.facts, M⟩ (.slice d0 q.decls.length d1) (.slice f0 q.facts.length f1) (.slice na M.length nc)) := by
        have hs := hg.size
        exact ⟨RepDes.on (fun b hb => by omega) keep G5.out.1, RepFas.on (fun b hb => by omega) keep G5.out.2.1, OwnK.slg' ho (fun b hb => by omega) (fun b h1 h2 => h2) hml⟩
      have B6 : Hid (Below W.heap.size W (w'.setCell ⟨k12, 2, none⟩ (.slice na M.length nc))) := Below.setCell (p := ⟨k12, 2, none⟩) (Below.trans B5.out (hg.mono (show W.heap.size ≤ w5.heap.size by omega))) (by simp; omega) _
      have HM := Lib.hid hM
      clear hM hml hy hK hWK keep ho hsz hg f10 o0 o1 o2 z2 RR5 G5 X5 Y5 B5
      generalize (w'.setCell ⟨k12, 2, none⟩ (.slice na M.length nc)) = w6 at *
      obtain ⟨o0, o1, o2⟩ := Y6.out.cells
      go_wp2_with fail
      refine (check_any ⟨q.decls, q.facts, M⟩ (fun b => b < w6.heap.size) w6 _ _ _ (fun _ h => h) G6.out).mono ?_
      rintro e w7 ⟨rfl, hb⟩
      have B7 := Lib.hid (Below.step B6.out hb)
      clear hb o0 o1 o2 Y6 G6 B6
      have hle := HLE.out k HKL.out
      rw [HM.out] at hle
      have hbd := check_bd q
      have hkl := HKL.out; have hln := HLN.out
      generalize checkZ ⟨q.decls, q.facts, M⟩ = F2 at *
      clear HLE
      generalize checkZ q = E2 at *
      obtain ⟨e2, n2⟩ := E2
      obtain ⟨f2, m2⟩ := F2
      obtain ⟨l1, l2, l3, l4⟩ := hle
      simp only at l1 l2 l3 l4 hbd
      by_cases he : e2 = 0
      · have h1 := l1 he
        injection h1 with h1 h2
        subst he h1 h2
        clear l1 l2 l3 l4 hbd hkl hln
        go_wp2_with fail
        go_ret
        exact ⟨rfl, B7.out⟩
      · have he0 : (e2 == 0) = false := by simpa using he
        by_cases hn : n2 = -1
        · have h1 := l2 he (.inl hn)
          injection h1 with h1 h2
          subst h1 h2 hn
          clear l1 l2 l3 l4 hbd hkl hln he
          go_wp2_with fail
          go_ret
          exact ⟨rfl, B7.out⟩
        · have hn0 : (n2 == -1) = false := by simpa using hn
          by_cases hlt : n2 < (k : Int)
          · have h1 := l2 he (.inr hlt)
            injection h1 with h1 h2
            subst h1 h2
            have hd : decide (m2 < (k : Int)) = true := decide_eq_true hlt
            clear l1 l2 l3 l4 hbd hkl hln he hlt hn
            go_wp2_with fail
            go_ret
            exact ⟨rfl, B7.out⟩
          · have hd : decide (n2 < (k : Int)) = false := decide_eq_false hlt
            by_cases hgt : (k : Int) < n2
            · have h1 := l3 he hgt
              injection h1 with h1 h2
              have hd2 : decide ((k : Int) < n2) = true := decide_eq_true hgt
              have hw : IntKind.i64.wrap (n2 - 1) = m2 := by rw [IntKind.wrap_i64, h2]; omega
              subst h1
              clear l1 l2 l3 l4 hbd hkl hln he hlt hn hgt h2
              go_wp2_with fail
              go_ret
              exact ⟨rfl, B7.out⟩
            · have hd2 : decide ((k : Int) < n2) = false := decide_eq_false hgt
              have h4 := l4 he (by omega)
              clear l1 l2 l3 l4 hbd hkl hln he hlt hn hgt
              by_cases hm : m2 = -1
              · subst hm
                clear h4
                go_wp2_with fail
                go_ret
                exact ⟨rfl, B7.out⟩
              · have hm0 : (m2 == -1) = false := by simpa using hm
                have hge : (k : Int) ≤ m2 := by omega
                have hd3 : decide ((k : Int) ≤ m2) = true := decide_eq_true hge
                clear h4 hm hge
                go_wp2_with fail
                go_ret
                exact ⟨rfl, B7.out⟩

end Go.Proofs.Ytkaiihoijcpldaa.scopeLess

/-
  What an api.Value, or a slice of them, that came in reads as: a tree of values in memory.
-/
namespace Go.Proofs.Ytkaiihoijcpldaa
open Go.ChangeShapes Go.WideShapes Go.ChangeAt Go.RowKit Go.Deep Go.Joins

theorem cellsValue : Try.prog.cellsOf 46 = 4 := by kernel_rfl
theorem bytesValue : Try.prog.bytesOf 46 = 56 := by kernel_rfl
theorem cellsInt : Try.prog.cellsOf 3 = 1 := by kernel_rfl
theorem cellsString : Try.prog.cellsOf 9 = 1 := by kernel_rfl
theorem cellsValues : Try.prog.cellsOf 44 = 1 := by kernel_rfl

theorem i64_wf {n : Int} (h : (Lit.int .i64 n).wf = true) : I64 n := bounds_i64 h

section
variable {H : Type} {enc : TypeId × Value → H} {W : World}

theorem weightsAll_mem {P : Program} {e : TypeId} {ds : List (DataW H)} {d : DataW H} (h : d ∈ ds) (n : Nat) (hn : n ∈ d.weights P e) : n ∈ DataW.weightsAll P e ds := by
  induction ds with
  | nil => cases h
  | cons x r ih =>
    rw [DataW.weightsAll, List.mem_append]
    rcases List.mem_cons.1 h with rfl | h
    · exact Or.inl hn
    · exact Or.inr (ih h)

def Fits (P : Program) (t : TypeId) (d : DataW H) : Prop := ∀ n ∈ d.weights P t, n ≤ reachBytes

theorem fits_value {a b c e : DataW H} (h : Fits Try.prog 46 (.agg [a, b, c, e])) : Fits Try.prog 44 e := fun n hn => h n (by
  simp only [DataW.weights, Try.underlying46, List.map_cons, List.map_nil, DataW.weightsEach, List.mem_append]
  exact Or.inr (Or.inr (Or.inr (Or.inl hn))))
theorem fits_values {elems spare : List (DataW H)} (h : Fits Try.prog 44 (.slice elems spare)) : (elems.length + spare.length) * 56 ≤ 140737488351232 ∧ ∀ d ∈ elems, Fits Try.prog 46 d := by
  simp only [Fits, DataW.weights, Try.underlying44, bytesValue] at h
  refine ⟨h _ (List.mem_cons_self), fun d hd n hn => h n (List.mem_cons_of_mem _ (List.mem_append_left _ (weightsAll_mem hd n hn)))⟩

theorem cell_lt {w : World} {a : Addr} {v : Value} (h : w.cell? a = some v) : a.block < w.heap.size := by
  by_cases hlt : a.block < w.heap.size
  · exact hlt
  · have hn : w.heap[a.block]? = none := by simp; omega
    simp [World.cell?, hn] at h

theorem cells4 {w : World} {a : Addr} {cs : List Value} (h : w.cells? 0 a 4 = some cs) : ∃ c0 c1 c2 c3, cs = [c0, c1, c2, c3] ∧ a.spot = none ∧ w.cell? ⟨a.block, a.off, none⟩ = some c0 ∧ w.cell? ⟨a.block, a.off + 1, none⟩ = some c1 ∧ w.cell? ⟨a.block, a.off + 2, none⟩ = some c2 ∧ w.cell? ⟨a.block, a.off + 3, none⟩ = some c3 := by
  obtain ⟨_, hlen, hcell⟩ := World.cells?_some h
  obtain ⟨b, o, sp⟩ := a
  match cs, hlen with
  | [c0, c1, c2, c3], _ =>
    have hsp : sp = none := by simpa [Addr.add] using World.cell?_spot (hcell 0 (by omega))
    subst hsp
    exact ⟨c0, c1, c2, c3, rfl, rfl, by simpa [Addr.add] using hcell 0 (by omega), by simpa [Addr.add] using hcell 1 (by omega), by simpa [Addr.add] using hcell 2 (by omega), by simpa [Addr.add] using hcell 3 (by omega)⟩

theorem add_block (a : Addr) (n : Nat) : (a.add n).block = a.block := by unfold Addr.add; split <;> simp_all
theorem add_off (a : Addr) (n : Nat) : (a.add n).off = a.off + n := by unfold Addr.add; split <;> simp_all

theorem sizeOf_mem {D : Nat → DataW H} {len i : Nat} (h : i < len) {sp : List (DataW H)} : SizeOf.sizeOf (D i) < SizeOf.sizeOf (DataW.slice ((List.range len).map D) sp) := by
  have := List.sizeOf_lt_of_mem (List.mem_map_of_mem (f := D) (List.mem_range.2 h))
  simp only [DataW.slice.sizeOf_spec]
  omega

set_option maxRecDepth 100000 in
mutual
theorem rep_of_trod (d : DataW H) (fuel : Nat) (cs : List Value) (ps : List MemPlace) (h : DataW.trod enc Try.prog W 0 (fun _ => true) true fuel 46 cs = some (d, ps)) (hf : Fits Try.prog 46 d) :
    ∃ x c0 c1 c2 c3, cs = [c0, c1, c2, c3] ∧ RepV W.heap.size W x c0 c1 c2 c3 := by
  obtain ⟨y0, y1, y2, y3, n, hx, hlen, h0, h1, h2, h3⟩ := trod_struct4 Try.underlying46 h
  rw [cellsValue] at hlen
  match cs, hlen with
  | [c0, c1, c2, c3], _ =>
    simp only [Prod.mk.injEq] at hx
    simp [cellsInt] at h0 h1
    simp [cellsString] at h2
    simp [cellsValues] at h3
    obtain ⟨k, e0, r0, w0⟩ := DataW.trod_int Try.underlying3 h0
    obtain ⟨m, e1, r1, w1⟩ := DataW.trod_int Try.underlying3 h1
    obtain ⟨s, e2, r2, w2⟩ := DataW.trod_string Try.underlying9 h2
    simp at e0 e1 e2
    subst e0 e1 e2
    have hd : d = .agg [y0.1, y1.1, y2.1, y3.1] := by simpa using hx.1
    have hsz : SizeOf.sizeOf y3.1 < SizeOf.sizeOf d := by rw [hd]; simp; omega
    subst hd
    obtain ⟨l, hl, -⟩ := repL_of_trod y3.1 n c3 y3.2 h3 (fits_value hf)
    exact ⟨.mk k m s l, _, _, _, _, rfl, repV_mk.2 ⟨rfl, rfl, rfl, i64_wf w0, i64_wf w1, w2, hl⟩⟩
  termination_by SizeOf.sizeOf d
theorem repL_of_trod (d : DataW H) (fuel : Nat) (v : Value) (ps : List MemPlace) (h : DataW.trod enc Try.prog W 0 (fun _ => true) true fuel 44 [v] = some (d, ps)) (hf : Fits Try.prog 44 d) :
    ∃ l, RepL W.heap.size W l v ∧ l.length * 56 ≤ 140737488351232 := by
  rcases open_slice Try.underlying44 h with ⟨hc, hx⟩ | ⟨a, len, cap, mm, n, D, Pl, hc, _, hl, hm, hmm, hx, hall⟩
  · simp only [List.cons.injEq, and_true] at hc
    subst hc
    exact ⟨[], ⟨none, 0, 0, 0, rfl, Nat.le_refl _, by simp, fun h => by omega, fun h => by simp at h, fun i hi => by simp at hi⟩, by simp⟩
  · simp only [List.cons.injEq, and_true] at hc
    subst hc
    simp only [if_true] at hmm
    subst hmm
    simp only [Prod.mk.injEq] at hx
    obtain ⟨hd, _⟩ := hx
    rw [cellsValue] at hall
    have hfv := hf
    rw [hd] at hfv
    obtain ⟨hcap, hfe⟩ := fits_values hfv
    have hcap' : mm * 56 ≤ 140737488351232 := by
      simp only [List.length_map, List.length_range] at hcap
      have : len + (mm - len) = mm := by omega
      rw [this] at hcap
      exact hcap
    have hsz : ∀ i, i < len → SizeOf.sizeOf (D i) < SizeOf.sizeOf d := fun i hi => by rw [hd]; exact sizeOf_mem hi
    have key : ∀ i : Nat, ∃ x : V, i < len → ∃ c0 c1 c2 c3, W.cell? ⟨a.block, a.off + i * 4, none⟩ = some c0 ∧ W.cell? ⟨a.block, a.off + i * 4 + 1, none⟩ = some c1 ∧ W.cell? ⟨a.block, a.off + i * 4 + 2, none⟩ = some c2 ∧ W.cell? ⟨a.block, a.off + i * 4 + 3, none⟩ = some c3 ∧ RepV W.heap.size W x c0 c1 c2 c3 := by
      intro i
      by_cases hi : i < len
      · obtain ⟨cs', g1, g2⟩ := hall i (by omega)
        have := hsz i hi
        obtain ⟨x, c0, c1, c2, c3, rfl, hr⟩ := rep_of_trod (D i) n cs' (Pl i) g2 (hfe _ (List.mem_map_of_mem (List.mem_range.2 hi)))
        obtain ⟨d0, d1, d2, d3, he, hsp, q0, q1, q2, q3⟩ := cells4 g1
        simp only [List.cons.injEq, and_true] at he
        obtain ⟨rfl, rfl, rfl, rfl⟩ := he
        rw [add_block, add_off] at q0 q1 q2 q3
        exact ⟨x, fun _ => ⟨_, _, _, _, q0, q1, q2, q3, hr⟩⟩
      · exact ⟨.mk 0 0 ⟨#[]⟩ [], fun h => absurd h hi⟩
    obtain ⟨X, hX⟩ := Classical.axiomOfChoice key
    have hspot : 0 < mm → a.spot = none := fun h0 => by
      obtain ⟨cs', g1, g2⟩ := hall 0 h0
      obtain ⟨d0, d1, d2, d3, he, hsp, _⟩ := cells4 g1
      simpa [Addr.add] using hsp
    refine ⟨(List.range len).map X, ⟨some a, a.block, a.off, mm, by simp, by simpa using hl, by simp; omega, fun h0 => ?_, fun h0 => ?_, fun i hi => ?_⟩, by simp; omega⟩
    · have := hspot h0
      obtain ⟨b, o, sp⟩ := a
      simp at this
      subst this
      rfl
    · simp at h0
      obtain ⟨c0, _, _, _, q, _⟩ := hX 0 (by omega)
      exact cell_lt (a := ⟨a.block, _, none⟩) q
    · have hi' : i < len := by simpa using hi
      obtain ⟨c0, c1, c2, c3, q0, q1, q2, q3, hr⟩ := hX i hi'
      exact ⟨c0, c1, c2, c3, q0, q1, q2, q3, by rw [List.getElem_map, List.getElem_range]; exact hr⟩
  termination_by SizeOf.sizeOf d
end

end
end Go.Proofs.Ytkaiihoijcpldaa

/-
  From 'the call returns true, and what lay there stands' to a law's row: the same lines for every law of a seat (no table).
-/
namespace Go.Proofs.Ytkaiihoijcpldaa
open Go.ChangeShapes Go.WideShapes Go.ChangeAt Go.RowKit

theorem own : ownKnob Try.prog.godebug = none := by kernel_rfl
theorem laidOut : laidOutB Try.prog = true := by kernel_rfl
/-- A world for the witnesses: the settled one. -/
noncomputable def plainWorld (os : Os) : World := World.holding Try.prog os ⟨#[], #[], []⟩

section
variable {H : Type} {enc : TypeId × Value → H}

theorem trodAll_below {W W' : World} (hb : Below W.heap.size W W') : ∀ (ts : List TypeId) (vs : List Value) (ds : List (DataW H)) (ps : List MemPlace), DataW.TrodAll enc Try.prog W 0 (fun _ => true) true ts vs ds ps →
    (∀ t ∈ ts, Try.prog.readableRec t = true ∧ t < Try.prog.types.size) → (∀ x ∈ ps, x.block < W.heap.size) → DataW.TrodAll enc Try.prog W' 0 (fun b => decide (b < W.heap.size)) true ts vs ds ps
  | [], [], [], ps, h, _, _ => h
  | t :: ts, v :: vs, d :: ds, ps, h, ht, hp => by
    obtain ⟨p, q, h1, h2, rfl⟩ := h
    obtain ⟨r1, r2⟩ := ht t (by simp)
    exact ⟨p, q, Below.trod laidOut r1 r2 h1 hb (fun x hx => hp x (by simp [hx])), trodAll_below hb ts vs ds q h2 (fun t' h' => ht t' (by simp [h'])) (fun x hx => hp x (by simp [hx])), rfl⟩
  | [], _ :: _, _, _, h, _, _ => by cases h
  | _ :: _, [], _, _, h, _, _ => by cases h
  | [], [], _ :: _, _, h, _, _ => by cases h
  | _ :: _, _ :: _, [], _, h, _, _ => by cases h

/-- THE ROW's POST of a law that returned true and left what lay there. -/
theorem law_post {fn : Func} {s : ChangeSpec} {W W' : World} {args : Array Value} {ds gs : List (DataW H)} {before : List MemPlace}
    (hvars : s.vars = []) (hres : fn.resultTypes = #[4]) (hread : ∀ t ∈ fn.params.toList, Try.prog.readableRec t = true ∧ t < Try.prog.types.size)
    (hW : DataW.Whole enc Try.prog fn.params.toList s.vars false W args.toList ds gs before)
    (hs : s.fn H (ds ++ gs) = { results := [.lit (.bool true)], args := ds })
    (hb : Below W.heap.size W W') : s.post enc Try.prog fn false true false false W args (.bool true) W' := by
  have hW' := hW
  obtain ⟨p, q, hA, hV, rfl, hfz, hnd⟩ := hW
  rw [hvars] at hV
  obtain ⟨rfl, rfl⟩ := trodVars_none hV
  refine ⟨ds, [], p ++ [], [], p, [], hW', ?_, ?_, ?_, hb.frame _, fun h => by cases h⟩
  · rw [hres, hs]
    exact trodAll_cons_mk (shut_bool Try.underlying4 _) trodAll_mk0
  · rw [hs]
    exact trodAll_below hb _ _ _ _ hA hread (fun x hx => hW'.lt x (by simp [hx]))
  · rw [hs, hvars]
    rfl

/-- The reach, argument by argument. -/
theorem fits_cons {t : TypeId} {ts : List TypeId} {d : DataW H} {ds : List (DataW H)} (h : (DataW.weightsEach Try.prog (t :: ts) (d :: ds)).all (· ≤ reachBytes) = true) :
    Fits Try.prog t d ∧ (DataW.weightsEach Try.prog ts ds).all (· ≤ reachBytes) = true := by
  rw [DataW.weightsEach, List.all_append, Bool.and_eq_true] at h
  exact ⟨fun n hn => by simpa using (List.all_eq_true.1 h.1) n hn, h.2⟩

set_option maxRecDepth 100000 in
/-- A value that came in. -/
theorem open_value {W : World} {base : Nat} {v : Value} {d : DataW H} {p : List MemPlace} (hv : Value.okWide Try.prog W .any base 46 v) (h : DataW.Trod enc Try.prog W 0 (fun _ => true) true 46 v d p) (hf : Fits Try.prog 46 d) :
    ∃ x c0 c1 c2 c3, v = .agg #[c0, c1, c2, c3] ∧ RepV W.heap.size W x c0 c1 c2 c3 := by
  obtain ⟨cs, rfl, hsz⟩ := okWide_struct Try.underlying46 hv
  obtain ⟨fuel, hf'⟩ := h
  obtain ⟨x, c0, c1, c2, c3, he, hr⟩ := rep_of_trod d fuel _ p hf' hf
  refine ⟨x, c0, c1, c2, c3, ?_, hr⟩
  have : cs.toList = [c0, c1, c2, c3] := by simpa [Value.cells] using he
  congr 1
  exact Array.toList_inj.1 (by simpa using this)
set_option maxRecDepth 100000 in
/-- A slice of values that came in. -/
theorem open_values {W : World} {base : Nat} {v : Value} {d : DataW H} {p : List MemPlace} (hv : Value.okWide Try.prog W .any base 44 v) (h : DataW.Trod enc Try.prog W 0 (fun _ => true) true 44 v d p) (hf : Fits Try.prog 44 d) :
    ∃ l, RepL W.heap.size W l v ∧ l.length * 56 ≤ 140737488351232 := by
  obtain ⟨a0, len, cap, rfl⟩ := okWide_slice Try.underlying44 hv
  obtain ⟨fuel, hf'⟩ := h
  exact repL_of_trod d fuel _ p (by simpa [Value.cells] using hf') hf
end

end Go.Proofs.Ytkaiihoijcpldaa

/-
  What terms, literals, rules, facts, relations and programs that came in read as: trees in memory.
-/
namespace Go.Proofs.Ytkaiihoijcpldaa
open Go.ChangeShapes Go.WideShapes Go.ChangeAt Go.RowKit Go.Deep Go.Joins

theorem cellsTm : Try.prog.cellsOf 48 = 7 := by kernel_rfl
theorem bytesTm : Try.prog.bytesOf 48 = 104 := by kernel_rfl
theorem cellsTms : Try.prog.cellsOf 36 = 1 := by kernel_rfl
theorem cellsLi : Try.prog.cellsOf 42 = 3 := by kernel_rfl
theorem bytesLi : Try.prog.bytesOf 42 = 48 := by kernel_rfl
theorem cellsLis : Try.prog.cellsOf 37 = 1 := by kernel_rfl
theorem cellsRu : Try.prog.cellsOf 39 = 6 := by kernel_rfl
theorem bytesRu : Try.prog.bytesOf 39 = 104 := by kernel_rfl
theorem cellsRus : Try.prog.cellsOf 27 = 1 := by kernel_rfl
theorem cellsDe : Try.prog.cellsOf 62 = 2 := by kernel_rfl
theorem bytesDe : Try.prog.bytesOf 62 = 24 := by kernel_rfl
theorem cellsDes : Try.prog.cellsOf 25 = 1 := by kernel_rfl
theorem cellsFa : Try.prog.cellsOf 56 = 2 := by kernel_rfl
theorem bytesFa : Try.prog.bytesOf 56 = 40 := by kernel_rfl
theorem cellsFas : Try.prog.cellsOf 26 = 1 := by kernel_rfl
theorem cellsPr : Try.prog.cellsOf 29 = 3 := by kernel_rfl

section
variable {H : Type} {enc : TypeId × Value → H} {W : World}

theorem fits_slice {st et : TypeId} {bytes : Nat} (hu : Try.prog.underlying st = some (.slice et)) (hb : Try.prog.bytesOf et = bytes) {elems spare : List (DataW H)} (h : Fits Try.prog st (.slice elems spare)) : (elems.length + spare.length) * bytes ≤ 140737488351232 ∧ ∀ d ∈ elems, Fits Try.prog et d := by
  simp only [Fits, DataW.weights, hu, hb] at h
  refine ⟨h _ (List.mem_cons_self), fun d hd n hn => h n (List.mem_cons_of_mem _ (List.mem_append_left _ (weightsAll_mem hd n hn)))⟩

set_option maxRecDepth 100000 in
theorem slg_of_trod {α : Type} {st et : TypeId} {n bytes : Nat} (R : α → (Nat → Value) → Prop) (x0 : α) (hu : Try.prog.underlying st = some (.slice et)) (hc : Try.prog.cellsOf et = n) (hb : Try.prog.bytesOf et = bytes) (hn : 0 < n)
    (d : DataW H) (fuel : Nat) (v : Value) (ps : List MemPlace) (h : DataW.trod enc Try.prog W 0 (fun _ => true) true fuel st [v] = some (d, ps)) (hf : Fits Try.prog st d)
    (hel : ∀ (d' : DataW H) (fuel' : Nat) (cs : List Value) (ps' : List MemPlace), SizeOf.sizeOf d' < SizeOf.sizeOf d → DataW.trod enc Try.prog W 0 (fun _ => true) true fuel' et cs = some (d', ps') → Fits Try.prog et d' → ∃ (x : α) (c : Nat → Value), (∀ j, j < n → cs[j]? = some (c j)) ∧ R x c) :
    ∃ l, SlG (fun k => k < W.heap.size) W n bytes R l v ∧ l.length * bytes ≤ 140737488351232 := by
  rcases open_slice hu h with ⟨hcs, hx⟩ | ⟨a, len, cap, mm, nf, D, Pl, hcs, _, hl, hm, hmm, hx, hall⟩
  · simp only [List.cons.injEq, and_true] at hcs
    subst hcs
    exact ⟨[], ⟨none, 0, 0, 0, rfl, Nat.le_refl _, by simp, fun h => by omega, fun h => by simp at h, fun i hi => by simp at hi⟩, by simp⟩
  · simp only [List.cons.injEq, and_true] at hcs
    subst hcs
    simp only [if_true] at hmm
    subst hmm
    simp only [Prod.mk.injEq] at hx
    obtain ⟨hd, _⟩ := hx
    rw [hc] at hall
    have hfv := hf
    rw [hd] at hfv
    obtain ⟨hcap, hfe⟩ := fits_slice hu hb hfv
    have hcap' : mm * bytes ≤ 140737488351232 := by
      simp only [List.length_map, List.length_range] at hcap
      have : len + (mm - len) = mm := by omega
      rw [this] at hcap
      exact hcap
    have hsz : ∀ i, i < len → SizeOf.sizeOf (D i) < SizeOf.sizeOf d := fun i hi => by rw [hd]; exact sizeOf_mem hi
    have hspot : 0 < mm → a.spot = none := fun h0 => by
      obtain ⟨cs', g1, g2⟩ := hall 0 h0
      obtain ⟨_, hlen, hcell⟩ := World.cells?_some g1
      have hc0 : cs'[0]? = some (cs'[0]'(by omega)) := List.getElem?_eq_getElem _
      have := World.cell?_spot ((hcell 0 hn).trans hc0)
      simpa [Addr.add] using this
    have key : ∀ i : Nat, ∃ p : α × (Nat → Value), i < len → (∀ j, j < n → W.cell? ⟨a.block, a.off + i * n + j, none⟩ = some (p.2 j)) ∧ R p.1 p.2 := by
      intro i
      by_cases hi : i < len
      · obtain ⟨cs', g1, g2⟩ := hall i (by omega)
        obtain ⟨x, c, hcj, hr⟩ := hel (D i) nf cs' (Pl i) (hsz i hi) g2 (hfe _ (List.mem_map_of_mem (List.mem_range.2 hi)))
        obtain ⟨_, hlen, hcell⟩ := World.cells?_some g1
        refine ⟨(x, c), fun _ => ⟨fun j hj => ?_, hr⟩⟩
        have hs := hspot (by omega)
        have e := (hcell j hj).trans (hcj j hj)
        obtain ⟨ab, ao, sp⟩ := a
        simp only at hs
        subst hs
        have add0 : ∀ (b o j : Nat), ((⟨b, o, none⟩ : Addr).add j) = ⟨b, o + j, none⟩ := by intro b o j; unfold Addr.add; split <;> simp_all
        rw [add0, add0] at e
        exact e
      · exact ⟨(x0, fun _ => undef), fun h => absurd h hi⟩
    obtain ⟨X, hX⟩ := Classical.axiomOfChoice key
    have hby : len * bytes ≤ mm * bytes := Nat.mul_le_mul_right _ hl
    refine ⟨(List.range len).map (fun i => (X i).1), ⟨some a, a.block, a.off, mm, by simp, by simpa using hl, by simp; omega, fun h0 => ?_, fun h0 => ?_, fun i hi => ?_⟩, by simp; omega⟩
    · have := hspot h0
      obtain ⟨b, o, sp⟩ := a
      simp at this
      subst this
      rfl
    · simp at h0
      obtain ⟨q, _⟩ := hX 0 (by omega)
      exact cell_lt (a := ⟨a.block, _, none⟩) (q 0 hn)
    · have hi' : i < len := by simpa using hi
      obtain ⟨q, hr⟩ := hX i hi'
      exact ⟨_, q, by rw [List.getElem_map, List.getElem_range]; exact hr⟩

theorem trod_struct6 {t : TypeId} {f0 f1 f2 f3 f4 f5 : Field} {fuel : Nat} {cs : List Value} {x : DataW H × List MemPlace} (ht : Try.prog.underlying t = some (.struct #[f0, f1, f2, f3, f4, f5])) (h : DataW.trod enc Try.prog W 0 (fun _ => true) true fuel t cs = some x) :
    ∃ y0 y1 y2 y3 y4 y5 n, x.1 = .agg [y0.1, y1.1, y2.1, y3.1, y4.1, y5.1] ∧ cs.length = Try.prog.cellsOf t ∧ DataW.trod enc Try.prog W 0 (fun _ => true) true n f0.type ((cs.drop f0.offset).take (Try.prog.cellsOf f0.type)) = some y0 ∧
      DataW.trod enc Try.prog W 0 (fun _ => true) true n f1.type ((cs.drop f1.offset).take (Try.prog.cellsOf f1.type)) = some y1 ∧ DataW.trod enc Try.prog W 0 (fun _ => true) true n f2.type ((cs.drop f2.offset).take (Try.prog.cellsOf f2.type)) = some y2 ∧
      DataW.trod enc Try.prog W 0 (fun _ => true) true n f3.type ((cs.drop f3.offset).take (Try.prog.cellsOf f3.type)) = some y3 ∧ DataW.trod enc Try.prog W 0 (fun _ => true) true n f4.type ((cs.drop f4.offset).take (Try.prog.cellsOf f4.type)) = some y4 ∧
      DataW.trod enc Try.prog W 0 (fun _ => true) true n f5.type ((cs.drop f5.offset).take (Try.prog.cellsOf f5.type)) = some y5 := by
  obtain ⟨xs, n, _, rfl, hl, hlen, hf⟩ := DataW.trod_struct ht h
  match xs, hlen with
  | [y0, y1, y2, y3, y4, y5], _ => exact ⟨y0, y1, y2, y3, y4, y5, n, by simp, hl, by simpa using hf 0 f0 rfl, by simpa using hf 1 f1 rfl, by simpa using hf 2 f2 rfl, by simpa using hf 3 f3 rfl, by simpa using hf 4 f4 rfl, by simpa using hf 5 f5 rfl⟩

theorem fits_tm_val {a0 a1 a2 a3 : DataW H} (h : Fits Try.prog 48 (.agg [a0, a1, a2, a3])) : Fits Try.prog 46 a2 := fun n hn => h n (by
  simp only [DataW.weights, Try.underlying48, List.map_cons, List.map_nil, DataW.weightsEach, List.mem_append]
  exact Or.inr (Or.inr (Or.inl hn)))
theorem fits_tm_args {a0 a1 a2 a3 : DataW H} (h : Fits Try.prog 48 (.agg [a0, a1, a2, a3])) : Fits Try.prog 36 a3 := fun n hn => h n (by
  simp only [DataW.weights, Try.underlying48, List.map_cons, List.map_nil, DataW.weightsEach, List.mem_append]
  exact Or.inr (Or.inr (Or.inr (Or.inl hn))))
theorem fits_li_args {a0 a1 a2 : DataW H} (h : Fits Try.prog 42 (.agg [a0, a1, a2])) : Fits Try.prog 36 a2 := fun n hn => h n (by
  simp only [DataW.weights, Try.underlying42, List.map_cons, List.map_nil, DataW.weightsEach, List.mem_append]
  exact Or.inr (Or.inr (Or.inl hn)))
theorem fits_ru_args {a0 a1 a2 a3 a4 a5 : DataW H} (h : Fits Try.prog 39 (.agg [a0, a1, a2, a3, a4, a5])) : Fits Try.prog 36 a2 := fun n hn => h n (by
  simp only [DataW.weights, Try.underlying39, List.map_cons, List.map_nil, DataW.weightsEach, List.mem_append]
  exact Or.inr (Or.inr (Or.inl hn)))
theorem fits_ru_body {a0 a1 a2 a3 a4 a5 : DataW H} (h : Fits Try.prog 39 (.agg [a0, a1, a2, a3, a4, a5])) : Fits Try.prog 37 a5 := fun n hn => h n (by
  simp only [DataW.weights, Try.underlying39, List.map_cons, List.map_nil, DataW.weightsEach, List.mem_append]
  exact Or.inr (Or.inr (Or.inr (Or.inr (Or.inr (Or.inl hn))))))
theorem fits_fa_args {a0 a1 : DataW H} (h : Fits Try.prog 56 (.agg [a0, a1])) : Fits Try.prog 44 a1 := fun n hn => h n (by
  simp only [DataW.weights, Try.underlying56, List.map_cons, List.map_nil, DataW.weightsEach, List.mem_append]
  exact Or.inr (Or.inl hn))
theorem fits_pr_decls {a0 a1 a2 : DataW H} (h : Fits Try.prog 29 (.agg [a0, a1, a2])) : Fits Try.prog 25 a0 := fun n hn => h n (by
  simp only [DataW.weights, Try.underlying29, List.map_cons, List.map_nil, DataW.weightsEach, List.mem_append]
  exact Or.inl hn)
theorem fits_pr_facts {a0 a1 a2 : DataW H} (h : Fits Try.prog 29 (.agg [a0, a1, a2])) : Fits Try.prog 26 a1 := fun n hn => h n (by
  simp only [DataW.weights, Try.underlying29, List.map_cons, List.map_nil, DataW.weightsEach, List.mem_append]
  exact Or.inr (Or.inl hn))
theorem fits_pr_rules {a0 a1 a2 : DataW H} (h : Fits Try.prog 29 (.agg [a0, a1, a2])) : Fits Try.prog 27 a2 := fun n hn => h n (by
  simp only [DataW.weights, Try.underlying29, List.map_cons, List.map_nil, DataW.weightsEach, List.mem_append]
  exact Or.inr (Or.inr (Or.inl hn)))

def inW (W : World) (k : Nat) : Prop := k < W.heap.size
def at7o (c0 c1 c2 c3 c4 c5 c6 : Value) : Nat → Value
  | 0 => c0 | 1 => c1 | 2 => c2 | 3 => c3 | 4 => c4 | 5 => c5 | _ => c6
set_option maxRecDepth 100000 in
theorem tm_of_trod (d : DataW H) (fuel : Nat) (cs : List Value) (ps : List MemPlace) (h : DataW.trod enc Try.prog W 0 (fun _ => true) true fuel 48 cs = some (d, ps)) (hf : Fits Try.prog 48 d) :
    ∃ x c0 c1 c2 c3 c4 c5 c6, cs = [c0, c1, c2, c3, c4, c5, c6] ∧ RepM (fun k => k < W.heap.size) W x c0 c1 c2 c3 c4 c5 c6 := by
  obtain ⟨y0, y1, y2, y3, n, hx, hlen, h0, h1, h2, h3⟩ := trod_struct4 Try.underlying48 h
  rw [cellsTm] at hlen
  match cs, hlen with
  | [c0, c1, c2, c3, c4, c5, c6], _ =>
    simp only [Prod.mk.injEq] at hx
    simp [cellsInt] at h0
    simp [cellsString] at h1
    simp [cellsValue] at h2
    simp [cellsTms] at h3
    obtain ⟨k, e0, r0, w0⟩ := DataW.trod_int Try.underlying3 h0
    obtain ⟨s, e1, r1, w1⟩ := DataW.trod_string Try.underlying9 h1
    simp at e0 e1
    subst e0 e1
    have hd : d = .agg [y0.1, y1.1, y2.1, y3.1] := by simpa using hx.1
    have hsz : SizeOf.sizeOf y3.1 < SizeOf.sizeOf d := by rw [hd]; simp; omega
    subst hd
    obtain ⟨x, d0, d1, d2, d3, e2, hr⟩ := rep_of_trod y2.1 n _ y2.2 h2 (fits_tm_val hf)
    simp only [List.cons.injEq, and_true] at e2
    obtain ⟨rfl, rfl, rfl, rfl⟩ := e2
    obtain ⟨l, hl, -⟩ := slg_of_trod (fun (x : Tm) c => RepM (fun k => k < W.heap.size) W x (c 0) (c 1) (c 2) (c 3) (c 4) (c 5) (c 6)) (.mk 0 ⟨#[]⟩ (.mk 0 0 ⟨#[]⟩ []) []) Try.underlying36 cellsTm bytesTm (by omega) y3.1 n c6 y3.2 h3 (fits_tm_args hf)
      (fun d' fuel' cs' ps' hs h' hf' => by
        obtain ⟨x, c0, c1, c2, c3, c4, c5, c6, rfl, hr⟩ := tm_of_trod d' fuel' cs' ps' h' hf'
        exact ⟨x, at7o c0 c1 c2 c3 c4 c5 c6, fun j hj => match j, hj with
          | 0, _ => rfl | 1, _ => rfl | 2, _ => rfl | 3, _ => rfl | 4, _ => rfl | 5, _ => rfl | 6, _ => rfl, hr⟩)
    exact ⟨.mk k s x l, _, _, _, _, _, _, _, rfl, repM_mk.2 ⟨rfl, rfl, i64_wf w0, w1, hr, hl⟩⟩
  termination_by SizeOf.sizeOf d
theorem tms_of_trod (d : DataW H) (fuel : Nat) (v : Value) (ps : List MemPlace) (h : DataW.trod enc Try.prog W 0 (fun _ => true) true fuel 36 [v] = some (d, ps)) (hf : Fits Try.prog 36 d) :
    ∃ l, RepMs (fun k => k < W.heap.size) W l v := by
  obtain ⟨l, hl, -⟩ := slg_of_trod (fun (x : Tm) c => RepM (fun k => k < W.heap.size) W x (c 0) (c 1) (c 2) (c 3) (c 4) (c 5) (c 6)) (.mk 0 ⟨#[]⟩ (.mk 0 0 ⟨#[]⟩ []) []) Try.underlying36 cellsTm bytesTm (by omega) d fuel v ps h hf
      (fun d' fuel' cs' ps' hs h' hf' => by
        obtain ⟨x, c0, c1, c2, c3, c4, c5, c6, rfl, hr⟩ := tm_of_trod d' fuel' cs' ps' h' hf'
        exact ⟨x, at7o c0 c1 c2 c3 c4 c5 c6, fun j hj => match j, hj with
          | 0, _ => rfl | 1, _ => rfl | 2, _ => rfl | 3, _ => rfl | 4, _ => rfl | 5, _ => rfl | 6, _ => rfl, hr⟩)
  exact ⟨l, hl⟩
set_option maxRecDepth 100000 in
theorem li_of_trod (d : DataW H) (fuel : Nat) (cs : List Value) (ps : List MemPlace) (h : DataW.trod enc Try.prog W 0 (fun _ => true) true fuel 42 cs = some (d, ps)) (hf : Fits Try.prog 42 d) :
    ∃ x c0 c1 c2, cs = [c0, c1, c2] ∧ RepLi (fun k => k < W.heap.size) W x c0 c1 c2 := by
  obtain ⟨y0, y1, y2, n, hx, hlen, h0, h1, h2⟩ := trod_struct3 Try.underlying42 h
  rw [cellsLi] at hlen
  match cs, hlen with
  | [c0, c1, c2], _ =>
    simp only [Prod.mk.injEq] at hx
    simp [cellsInt] at h0
    simp [cellsString] at h1
    simp [cellsTms] at h2
    obtain ⟨k, e0, r0, w0⟩ := DataW.trod_int Try.underlying3 h0
    obtain ⟨s, e1, r1, w1⟩ := DataW.trod_string Try.underlying9 h1
    simp at e0 e1
    subst e0 e1
    have hd : d = .agg [y0.1, y1.1, y2.1] := by simpa using hx.1
    subst hd
    obtain ⟨l, hl⟩ := tms_of_trod y2.1 n c2 y2.2 h2 (fits_li_args hf)
    exact ⟨⟨k, s, l⟩, _, _, _, rfl, rfl, rfl, i64_wf w0, w1, hl⟩
set_option maxRecDepth 100000 in
theorem ru_of_trod (d : DataW H) (fuel : Nat) (cs : List Value) (ps : List MemPlace) (h : DataW.trod enc Try.prog W 0 (fun _ => true) true fuel 39 cs = some (d, ps)) (hf : Fits Try.prog 39 d) :
    ∃ x c0 c1 c2 c3 c4 c5, cs = [c0, c1, c2, c3, c4, c5] ∧ RepRu (fun k => k < W.heap.size) W x c0 c1 c2 c3 c4 c5 := by
  obtain ⟨y0, y1, y2, y3, y4, y5, n, hx, hlen, h0, h1, h2, h3, h4, h5⟩ := trod_struct6 Try.underlying39 h
  rw [cellsRu] at hlen
  match cs, hlen with
  | [c0, c1, c2, c3, c4, c5], _ =>
    simp [cellsString] at h0 h1 h3
    simp [cellsTms] at h2
    simp [cellsInt] at h4
    simp [cellsLis] at h5
    obtain ⟨s0, e0, r0, w0⟩ := DataW.trod_string Try.underlying9 h0
    obtain ⟨s1, e1, r1, w1⟩ := DataW.trod_string Try.underlying9 h1
    obtain ⟨s3, e3, r3, w3⟩ := DataW.trod_string Try.underlying9 h3
    obtain ⟨k, e4, r4, w4⟩ := DataW.trod_int Try.underlying3 h4
    simp at e0 e1 e3 e4
    subst e0 e1 e3 e4
    have hd : d = .agg [y0.1, y1.1, y2.1, y3.1, y4.1, y5.1] := by simpa using hx
    subst hd
    obtain ⟨l, hl⟩ := tms_of_trod y2.1 n c2 y2.2 h2 (fits_ru_args hf)
    obtain ⟨m, hm, -⟩ := slg_of_trod (fun (x : Li) c => RepLi (fun k => k < W.heap.size) W x (c 0) (c 1) (c 2)) ⟨0, ⟨#[]⟩, []⟩ Try.underlying37 cellsLi bytesLi (by omega) y5.1 n c5 y5.2 h5 (fits_ru_body hf)
      (fun d' fuel' cs' ps' hs h' hf' => by
        obtain ⟨x, c0, c1, c2, rfl, hr⟩ := li_of_trod d' fuel' cs' ps' h' hf'
        exact ⟨x, at7o c0 c1 c2 c2 c2 c2 c2, fun j hj => match j, hj with
          | 0, _ => rfl | 1, _ => rfl | 2, _ => rfl, hr⟩)
    exact ⟨⟨s0, s1, l, s3, k, m⟩, _, _, _, _, _, _, rfl, rfl, rfl, rfl, rfl, w0, w1, w3, i64_wf w4, hl, hm⟩
set_option maxRecDepth 100000 in
theorem de_of_trod (d : DataW H) (fuel : Nat) (cs : List Value) (ps : List MemPlace) (h : DataW.trod enc Try.prog W 0 (fun _ => true) true fuel 62 cs = some (d, ps)) :
    ∃ x c0 c1, cs = [c0, c1] ∧ RepDe (fun k => k < W.heap.size) W x c0 c1 := by
  obtain ⟨y0, y1, n, hx, hlen, h0, h1⟩ := trod_struct2 Try.underlying62 h
  rw [cellsDe] at hlen
  match cs, hlen with
  | [c0, c1], _ =>
    simp [cellsString] at h0
    simp [cellsInt] at h1
    obtain ⟨s, e0, r0, w0⟩ := DataW.trod_string Try.underlying9 h0
    obtain ⟨k, e1, r1, w1⟩ := DataW.trod_int Try.underlying3 h1
    simp at e0 e1
    subst e0 e1
    exact ⟨⟨s, k⟩, _, _, rfl, rfl, rfl, w0, i64_wf w1⟩
set_option maxRecDepth 100000 in
theorem fa_of_trod (d : DataW H) (fuel : Nat) (cs : List Value) (ps : List MemPlace) (h : DataW.trod enc Try.prog W 0 (fun _ => true) true fuel 56 cs = some (d, ps)) (hf : Fits Try.prog 56 d) :
    ∃ x c0 c1, cs = [c0, c1] ∧ RepFa (fun k => k < W.heap.size) W x c0 c1 := by
  obtain ⟨y0, y1, n, hx, hlen, h0, h1⟩ := trod_struct2 Try.underlying56 h
  rw [cellsFa] at hlen
  match cs, hlen with
  | [c0, c1], _ =>
    simp only [Prod.mk.injEq] at hx
    simp [cellsString] at h0
    simp [cellsValues] at h1
    obtain ⟨s, e0, r0, w0⟩ := DataW.trod_string Try.underlying9 h0
    simp at e0
    subst e0
    have hd : d = .agg [y0.1, y1.1] := by simpa using hx.1
    subst hd
    obtain ⟨l, hl, -⟩ := repL_of_trod y1.1 n c1 y1.2 h1 (fits_fa_args hf)
    exact ⟨⟨s, l⟩, _, _, rfl, rfl, w0, hl⟩
set_option maxRecDepth 100000 in
theorem pr_of_trod (d : DataW H) (fuel : Nat) (cs : List Value) (ps : List MemPlace) (h : DataW.trod enc Try.prog W 0 (fun _ => true) true fuel 29 cs = some (d, ps)) (hf : Fits Try.prog 29 d) :
    ∃ x c0 c1 c2, cs = [c0, c1, c2] ∧ RepPr (fun k => k < W.heap.size) W x c0 c1 c2 := by
  obtain ⟨y0, y1, y2, n, hx, hlen, h0, h1, h2⟩ := trod_struct3 Try.underlying29 h
  rw [cellsPr] at hlen
  match cs, hlen with
  | [c0, c1, c2], _ =>
    simp only [Prod.mk.injEq] at hx
    simp [cellsDes] at h0
    simp [cellsFas] at h1
    simp [cellsRus] at h2
    have hd : d = .agg [y0.1, y1.1, y2.1] := by simpa using hx.1
    subst hd
    obtain ⟨l0, hl0, -⟩ := slg_of_trod (fun (x : De) c => RepDe (fun k => k < W.heap.size) W x (c 0) (c 1)) ⟨⟨#[]⟩, 0⟩ Try.underlying25 cellsDe bytesDe (by omega) y0.1 n c0 y0.2 h0 (fits_pr_decls hf)
      (fun d' fuel' cs' ps' hs h' hf' => by
        obtain ⟨x, c0, c1, rfl, hr⟩ := de_of_trod d' fuel' cs' ps' h'
        exact ⟨x, at7o c0 c1 c1 c1 c1 c1 c1, fun j hj => match j, hj with
          | 0, _ => rfl | 1, _ => rfl, hr⟩)
    obtain ⟨l1, hl1, -⟩ := slg_of_trod (fun (x : Fa) c => RepFa (fun k => k < W.heap.size) W x (c 0) (c 1)) ⟨⟨#[]⟩, []⟩ Try.underlying26 cellsFa bytesFa (by omega) y1.1 n c1 y1.2 h1 (fits_pr_facts hf)
      (fun d' fuel' cs' ps' hs h' hf' => by
        obtain ⟨x, c0, c1, rfl, hr⟩ := fa_of_trod d' fuel' cs' ps' h' hf'
        exact ⟨x, at7o c0 c1 c1 c1 c1 c1 c1, fun j hj => match j, hj with
          | 0, _ => rfl | 1, _ => rfl, hr⟩)
    obtain ⟨l2, hl2, -⟩ := slg_of_trod (fun (x : Ru) c => RepRu (fun k => k < W.heap.size) W x (c 0) (c 1) (c 2) (c 3) (c 4) (c 5)) ⟨⟨#[]⟩, ⟨#[]⟩, [], ⟨#[]⟩, 0, []⟩ Try.underlying27 cellsRu bytesRu (by omega) y2.1 n c2 y2.2 h2 (fits_pr_rules hf)
      (fun d' fuel' cs' ps' hs h' hf' => by
        obtain ⟨x, c0, c1, c2, c3, c4, c5, rfl, hr⟩ := ru_of_trod d' fuel' cs' ps' h' hf'
        exact ⟨x, at7o c0 c1 c2 c3 c4 c5 c5, fun j hj => match j, hj with
          | 0, _ => rfl | 1, _ => rfl | 2, _ => rfl | 3, _ => rfl | 4, _ => rfl | 5, _ => rfl, hr⟩)
    exact ⟨⟨l0, l1, l2⟩, _, _, _, rfl, hl0, hl1, hl2⟩

set_option maxRecDepth 100000 in
theorem open_program {base : Nat} {v : Value} {d : DataW H} {p : List MemPlace} (hv : Value.okWide Try.prog W .any base 29 v) (h : DataW.Trod enc Try.prog W 0 (fun _ => true) true 29 v d p) (hf : Fits Try.prog 29 d) :
    ∃ x c0 c1 c2, v = .agg #[c0, c1, c2] ∧ RepPr (fun k => k < W.heap.size) W x c0 c1 c2 := by
  obtain ⟨cs, rfl, hsz⟩ := okWide_struct Try.underlying29 hv
  obtain ⟨fuel, hf'⟩ := h
  obtain ⟨x, c0, c1, c2, he, hr⟩ := pr_of_trod d fuel _ p hf' hf
  refine ⟨x, c0, c1, c2, ?_, hr⟩
  have : cs.toList = [c0, c1, c2] := by simpa [Value.cells] using he
  congr 1
  exact Array.toList_inj.1 (by simpa using this)
set_option maxRecDepth 100000 in
theorem open_term {base : Nat} {v : Value} {d : DataW H} {p : List MemPlace} (hv : Value.okWide Try.prog W .any base 48 v) (h : DataW.Trod enc Try.prog W 0 (fun _ => true) true 48 v d p) (hf : Fits Try.prog 48 d) :
    ∃ x c0 c1 c2 c3 c4 c5 c6, v = .agg #[c0, c1, c2, c3, c4, c5, c6] ∧ RepM (fun k => k < W.heap.size) W x c0 c1 c2 c3 c4 c5 c6 := by
  obtain ⟨cs, rfl, hsz⟩ := okWide_struct Try.underlying48 hv
  obtain ⟨fuel, hf'⟩ := h
  obtain ⟨x, c0, c1, c2, c3, c4, c5, c6, he, hr⟩ := tm_of_trod d fuel _ p hf' hf
  refine ⟨x, c0, c1, c2, c3, c4, c5, c6, ?_, hr⟩
  have : cs.toList = [c0, c1, c2, c3, c4, c5, c6] := by simpa [Value.cells] using he
  congr 1
  exact Array.toList_inj.1 (by simpa using this)
set_option maxRecDepth 100000 in
theorem open_literal {base : Nat} {v : Value} {d : DataW H} {p : List MemPlace} (hv : Value.okWide Try.prog W .any base 42 v) (h : DataW.Trod enc Try.prog W 0 (fun _ => true) true 42 v d p) (hf : Fits Try.prog 42 d) :
    ∃ x c0 c1 c2, v = .agg #[c0, c1, c2] ∧ RepLi (fun k => k < W.heap.size) W x c0 c1 c2 := by
  obtain ⟨cs, rfl, hsz⟩ := okWide_struct Try.underlying42 hv
  obtain ⟨fuel, hf'⟩ := h
  obtain ⟨x, c0, c1, c2, he, hr⟩ := li_of_trod d fuel _ p hf' hf
  refine ⟨x, c0, c1, c2, ?_, hr⟩
  have : cs.toList = [c0, c1, c2] := by simpa [Value.cells] using he
  congr 1
  exact Array.toList_inj.1 (by simpa using this)
end
end Go.Proofs.Ytkaiihoijcpldaa
