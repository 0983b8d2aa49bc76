/-
  SameFour
-/
import Derived.Test.YtgjemmdhamkngaaGreatDoorKB
import Derived.Test.YtgjemmdhamkngaaGreatDoorKSame
import Derived.Test.YtgjemmdhamkngaaGreatDoorK09
import Derived.Test.YtgjemmdhamkngaaGreatDoorK07
import Derived.Test.YtgjemmdhamkngaaGreatDoorK11
namespace Go.Proofs.YtgjemmdhamkngaaGreatDoor
open Go.RowKit
noncomputable def eqB (p : Prop) : Bool := @decide p (Classical.propDecidable p)
theorem eqB_true {p : Prop} (h : p) : eqB p = true := by unfold eqB; exact @decide_eq_true p (Classical.propDecidable p) h
theorem eqB_false {p : Prop} (h : ¬ p) : eqB p = false := by unfold eqB; exact @decide_eq_false p (Classical.propDecidable p) h
theorem of_eqB {p : Prop} (h : eqB p = true) : p := by unfold eqB at h; exact @of_decide_eq_true p (Classical.propDecidable p) h
theorem not_eqB {p : Prop} (h : eqB p = false) : ¬ p := by unfold eqB at h; exact @of_decide_eq_false p (Classical.propDecidable p) h
theorem eqB_iff {p q : Prop} (h : p ↔ q) : eqB p = eqB q := by rw [propext h]
theorem sameV_eqB (x y : V) : sameV x y = eqB (x = y) := by
 by_cases h : x = y
 ·rw [eqB_true h]; exact (sameV_iff x y).2 h
 ·rw [eqB_false h]
  cases e : sameV x y with
  | false => rfl
  | true => exact absurd ((sameV_iff x y).1 e) h
def SameTmsAt (l m : List Tm) : Prop := ∀ (S : Nat → Prop) (w : World) (a b : Value), (∀ k, S k → k < w.heap.size) → RepMs S w l a → RepMs S w m b →
 Calls Tryz.prog 26 #[a, b] w fun e w' => e = .returned (.bool (eqB (l = m))) ∧ Below w.heap.size w w'
theorem drop_cons {α : Type} {l m : List α} {k : Nat} (hl : k < l.length) (hm : k < m.length) : (l.drop k = m.drop k) ↔ (l[k] = m[k] ∧ l.drop (k + 1) = m.drop (k + 1)) := by
 rw [List.drop_eq_getElem_cons hl, List.drop_eq_getElem_cons hm, List.cons.injEq]
theorem tm_ext {x y : Tm} : x = y ↔ (x.kind = y.kind ∧ x.name = y.name ∧ x.val = y.val ∧ x.args = y.args) := by
 cases x; cases y
 simp [Tm.kind, Tm.name, Tm.val, Tm.args]
theorem li_ext {x y : Li} : x = y ↔ (x.kind = y.kind ∧ x.name = y.name ∧ x.args = y.args) := by
 cases x; cases y
 simp
set_option maxRecDepth 100000 in
set_option maxHeartbeats 16000000 in
theorem sameTms_of (l m : List Tm) (ih : ∀ x ∈ l, ∀ m', SameTmsAt x.args m') : SameTmsAt l m := by
 intro S w a b hS ha hb
 have HS := Lib.hid hS; have HL := Lib.hid ha; have HM := Lib.hid hb; have HIH := Lib.hid ih
 have hln : l.length ≤ 140737488355328 := by have := SlG.bytes ha; omega
 obtain ⟨aa, ac, rfl⟩ := SlG.form ha
 obtain ⟨ba, bc, rfl⟩ := SlG.form hb
 clear hS ha hb ih
 by_cases hne : l.length = m.length
 ·have hn' : ((l.length : Int) != (m.length : Int)) = false := by simp; omega
  have HNEQ := Lib.hid hne
  clear hne
  go_enter Tryz.func26, Tryz.ntmps26
  go_wp2_with fail
  go_loopw [5, 6, 7] (fun i _ _ wr => ∃ k : Nat, k ≤ l.length ∧ i = .int .i64 k ∧ Hid (l = m ↔ l.drop k = m.drop k) ∧ Below w.heap.size w wr) (fun i _ _ _ => l.length - (intOf i).toNat)
  case atStart => exact ⟨0, Nat.zero_le _, rfl, Iff.rfl, Below.refl _ _⟩
  case round =>
   obtain ⟨k, hk1, rfl, hrec, hbel⟩ := hrel
   have HREC := hrec; have HBEL := Lib.hid hbel
   clear hrec
   by_cases hl : k < l.length
   ·have hm : k < m.length := by have := HNEQ.out; omega
    have hA := (RepMs.on (fun _ h => h) (fun j hj => hbel.block j (HS.out j hj)) HL.out : RepMs S wr l (.slice aa l.length ac))
    have hB := (RepMs.on (fun _ h => h) (fun j hj => hbel.block j (HS.out j hj)) HM.out : RepMs S wr m (.slice ba m.length bc))
    obtain ⟨-, -, lb, lo, xf, xc, xa, xd, hga, hSl, q0, q1, q2, q3, q4, q5, q6, gx⟩ := RepMs.at hA k hl
    obtain ⟨-, -, mb, mo, yf, yc, ya, yd, hgb, hSm, p0, p1, p2, p3, p4, p5, p6, gy⟩ := RepMs.at hB k hm
    obtain rfl := hga
    obtain rfl := hgb
    have HSR := Lib.hid (fun j (hj : S j) => Nat.lt_of_lt_of_le (HS.out j hj) hbel.size)
    have HLB := Lib.hid (HSR.out lb hSl); have HMB := Lib.hid (HSR.out mb hSm)
    have Q0 := Lib.hid q0; have Q1 := Lib.hid q1; have Q2 := Lib.hid q2; have Q3 := Lib.hid q3; have Q4 := Lib.hid q4; have Q5 := Lib.hid q5; have Q6 := Lib.hid q6
    have P0 := Lib.hid p0; have P1 := Lib.hid p1; have P2 := Lib.hid p2; have P3 := Lib.hid p3; have P4 := Lib.hid p4; have P5 := Lib.hid p5; have P6 := Lib.hid p6
    have GX := Lib.hid gx; have GY := Lib.hid gy
    have HK1 : Hid ((0 : Int) ≤ (k : Int)) := Int.natCast_nonneg k
    have HK2 : Hid ((k : Int) < (l.length : Int)) := by show _ < _; omega
    have HK3 : Hid ((k : Int) < (m.length : Int)) := by show _ < _; omega
    have HDR := Lib.hid (drop_cons hl hm)
    have HXM := Lib.hid (List.getElem_mem hl)
    clear hA hB q0 q1 q2 q3 q4 q5 q6 p0 p1 p2 p3 p4 p5 p6 gx gy hSl hSm hbel
    generalize l[k] = x at *
    generalize m[k] = y at *
    have HEX := Lib.hid (tm_ext (x := x) (y := y))
    obtain ⟨v1, hv1⟩ : ∃ v, sameV x.val y.val = v := ⟨_, rfl⟩
    obtain ⟨v2, hv2⟩ : ∃ v, eqB (x.args = y.args) = v := ⟨_, rfl⟩
    have HV1 := Lib.hid hv1; have HV2 := Lib.hid hv2
    clear hv1 hv2
    by_cases hke : x.kind = y.kind
    ·by_cases hne : x.name = y.name
     ·have HKK : Hid ((x.kind == y.kind) = true) := Lib.hid (by simp [hke])
      have HNN : Hid ((x.name.toList == y.name.toList) = true) := Lib.hid (by simp [hne])
      have HKE := Lib.hid hke; have HNE := Lib.hid hne
      clear hke hne
      go_wp2_with fail
      refine wp_region_factsG (by rfl) 73 (by rfl) (by kernel_rfl) (fun wz iz vz => (iz = 0 → vz = .slice (some ⟨lb, lo, none⟩) l.length ac) ∧ (iz = 1 → vz = .int .i64 (k : Int)) ∧ (iz = 2 → vz = .pointer (some ⟨lb, lo + k * 7, none⟩)) ∧ (iz = 3 → vz = .pointer (some ⟨lb, lo + k * 7, none⟩)) ∧ (iz = 4 → vz = .int .i64 x.kind) ∧ (iz = 5 → vz = .slice (some ⟨mb, mo, none⟩) m.length bc) ∧ (iz = 6 → vz = .int .i64 (k : Int)) ∧ (iz = 7 → vz = .pointer (some ⟨mb, mo + k * 7, none⟩)) ∧ (iz = 8 → vz = .pointer (some ⟨mb, mo + k * 7, none⟩)) ∧ (iz = 9 → vz = .int .i64 y.kind) ∧ (iz = 10 → vz = .bool true) ∧ (iz = 11 → vz = .bool true) ∧ (iz = 12 → vz = .slice (some ⟨lb, lo, none⟩) l.length ac) ∧ (iz = 13 → vz = .int .i64 (k : Int)) ∧ (iz = 14 → vz = .pointer (some ⟨lb, lo + k * 7, none⟩)) ∧ (iz = 15 → vz = .pointer (some ⟨lb, lo + k * 7 + 1, none⟩)) ∧ (iz = 16 → vz = .string x.name) ∧ (iz = 17 → vz = .slice (some ⟨mb, mo, none⟩) m.length bc) ∧ (iz = 18 → vz = .int .i64 (k : Int)) ∧ (iz = 19 → vz = .pointer (some ⟨mb, mo + k * 7, none⟩)) ∧ (iz = 20 → vz = .pointer (some ⟨mb, mo + k * 7 + 1, none⟩)) ∧ (iz = 21 → vz = .string y.name) ∧ (iz = 22 → vz = .bool true) ∧ (iz = 23 → vz = .bool true) ∧ (iz = 24 → vz = .bool true) ∧ (iz = 25 → vz = .slice (some ⟨lb, lo, none⟩) l.length ac) ∧ (iz = 26 → vz = .int .i64 (k : Int)) ∧ (iz = 27 → vz = .pointer (some ⟨lb, lo + k * 7, none⟩)) ∧ (iz = 28 → vz = .pointer (some ⟨lb, lo + k * 7 + 2, none⟩)) ∧ (iz = 29 → vz = .agg #[.int .i64 x.val.kind, .int .i64 x.val.num, .string x.val.text, .slice xf x.val.list.length xc]) ∧ (iz = 30 → vz = .slice (some ⟨mb, mo, none⟩) m.length bc) ∧ (iz = 31 → vz = .int .i64 (k : Int)) ∧ (iz = 32 → vz = .pointer (some ⟨mb, mo + k * 7, none⟩)) ∧ (iz = 33 → vz = .pointer (some ⟨mb, mo + k * 7 + 2, none⟩)) ∧ (iz = 34 → vz = .agg #[.int .i64 y.val.kind, .int .i64 y.val.num, .string y.val.text, .slice yf y.val.list.length yc]) ∧ (iz = 35 → vz = .bool v1) ∧ (iz = 36 → vz = .bool v1) ∧ (iz = 37 → vz = .bool v1)) (fun w' => Below wr.heap.size wr w') (Below.drew (Below.refl _ _)) ⟨?s0, ?s1, ?s2, ?s3, ?s4, ?s5, ?s6, ?s7, ?s8, ?s9, ?s10, ?s11, ?s12, ?s13, ?s14, ?s15, ?s16, ?s17, ?s18, ?s19, ?s20, ?s21, ?s22, ?s23, ?s24, ?s25, ?s26, ?s27, ?s28, ?s29, ?s30, ?s31, ?s32, ?s33, ?s34, ?s35, ?s36, ?s37, trivial⟩ ?fin
      case s0 =>
       intro a w' hoff hg hdep K hK
       have h0 := off_at hoff 0 (v := .slice (some ⟨lb, lo, none⟩) l.length ac) (by kernel_rfl) rfl
       rw [if_pos (by rfl)]
       go_simp
       exact hK.out _ _ hg ⟨fun _ => rfl, nn,nn,nn,nn,nn,nn,nn,nn,nn,nn,nn,nn,nn,nn,nn,nn,nn,nn,nn,nn,nn,nn,nn,nn,nn,nn,nn,nn,nn,nn,nn,nn,nn,nn,nn,nn,nn⟩ (fun _ _ h => h)
      case s1 =>
       intro a w' hoff hg hdep K hK
       have h5 := off_at hoff 5 (v := .int .i64 (k : Int)) (by kernel_rfl) rfl
       rw [if_pos (by rfl)]
       go_simp
       exact hK.out _ _ hg ⟨nn, fun _ => rfl, nn,nn,nn,nn,nn,nn,nn,nn,nn,nn,nn,nn,nn,nn,nn,nn,nn,nn,nn,nn,nn,nn,nn,nn,nn,nn,nn,nn,nn,nn,nn,nn,nn,nn,nn,nn⟩ (fun _ _ h => h)
      case s2 =>
       intro a w' hoff hg hdep K hK
       obtain ⟨v0, e0, f0⟩ := hdep 0 _ 19 (by kernel_rfl) rfl rfl
       obtain rfl := (f0.1 rfl).symm
       obtain ⟨v1, e1, f1⟩ := hdep 1 _ 20 (by kernel_rfl) rfl rfl
       obtain rfl := (f1.2.1 rfl).symm
       have hk1 := HK1.out; have hk2 := HK2.out
       rw [if_pos (by rfl)]
       go_simp
       exact hK.out _ _ hg ⟨nn,nn, fun _ => rfl, nn,nn,nn,nn,nn,nn,nn,nn,nn,nn,nn,nn,nn,nn,nn,nn,nn,nn,nn,nn,nn,nn,nn,nn,nn,nn,nn,nn,nn,nn,nn,nn,nn,nn,nn⟩ (fun _ _ h => h)
      case s3 =>
       intro a w' hoff hg hdep K hK
       obtain ⟨v2, e2, f2⟩ := hdep 2 _ 21 (by kernel_rfl) rfl rfl
       obtain rfl := (f2.2.2.1 rfl).symm
       rw [if_pos (by rfl)]
       go_simp
       exact hK.out _ _ hg ⟨nn,nn,nn, fun _ => rfl, nn,nn,nn,nn,nn,nn,nn,nn,nn,nn,nn,nn,nn,nn,nn,nn,nn,nn,nn,nn,nn,nn,nn,nn,nn,nn,nn,nn,nn,nn,nn,nn,nn,nn⟩ (fun _ _ h => h)
      case s4 =>
       intro a w' hoff hg hdep K hK
       obtain ⟨v3, e3, f3⟩ := hdep 3 _ 22 (by kernel_rfl) rfl rfl
       obtain rfl := (f3.2.2.2.1 rfl).symm
       rw [if_pos (by rfl)]
       have q0 := (hg.cell (p := ⟨lb, lo + k * 7, none⟩) HLB.out).trans Q0.out; have q1 := (hg.cell (p := ⟨lb, lo + k * 7 + 1, none⟩) HLB.out).trans Q1.out; have q2 := (hg.cell (p := ⟨lb, lo + k * 7 + 2, none⟩) HLB.out).trans Q2.out; have q3 := (hg.cell (p := ⟨lb, lo + k * 7 + 3, none⟩) HLB.out).trans Q3.out; have q4 := (hg.cell (p := ⟨lb, lo + k * 7 + 4, none⟩) HLB.out).trans Q4.out; have q5 := (hg.cell (p := ⟨lb, lo + k * 7 + 5, none⟩) HLB.out).trans Q5.out; have q6 := (hg.cell (p := ⟨lb, lo + k * 7 + 6, none⟩) HLB.out).trans Q6.out; have p0 := (hg.cell (p := ⟨mb, mo + k * 7, none⟩) HMB.out).trans P0.out; have p1 := (hg.cell (p := ⟨mb, mo + k * 7 + 1, none⟩) HMB.out).trans P1.out; have p2 := (hg.cell (p := ⟨mb, mo + k * 7 + 2, none⟩) HMB.out).trans P2.out; have p3 := (hg.cell (p := ⟨mb, mo + k * 7 + 3, none⟩) HMB.out).trans P3.out; have p4 := (hg.cell (p := ⟨mb, mo + k * 7 + 4, none⟩) HMB.out).trans P4.out; have p5 := (hg.cell (p := ⟨mb, mo + k * 7 + 5, none⟩) HMB.out).trans P5.out; have p6 := (hg.cell (p := ⟨mb, mo + k * 7 + 6, none⟩) HMB.out).trans P6.out
       go_simp
       exact hK.out _ _ hg ⟨nn,nn,nn,nn, fun _ => rfl, nn,nn,nn,nn,nn,nn,nn,nn,nn,nn,nn,nn,nn,nn,nn,nn,nn,nn,nn,nn,nn,nn,nn,nn,nn,nn,nn,nn,nn,nn,nn,nn,nn⟩ (fun _ _ h => h)
      case s5 =>
       intro a w' hoff hg hdep K hK
       have h1 := off_at hoff 1 (v := .slice (some ⟨mb, mo, none⟩) m.length bc) (by kernel_rfl) rfl
       rw [if_pos (by rfl)]
       go_simp
       exact hK.out _ _ hg ⟨nn,nn,nn,nn,nn, fun _ => rfl, nn,nn,nn,nn,nn,nn,nn,nn,nn,nn,nn,nn,nn,nn,nn,nn,nn,nn,nn,nn,nn,nn,nn,nn,nn,nn,nn,nn,nn,nn,nn,nn⟩ (fun _ _ h => h)
      case s6 =>
       intro a w' hoff hg hdep K hK
       have h5 := off_at hoff 5 (v := .int .i64 (k : Int)) (by kernel_rfl) rfl
       rw [if_pos (by rfl)]
       go_simp
       exact hK.out _ _ hg ⟨nn,nn,nn,nn,nn,nn, fun _ => rfl, nn,nn,nn,nn,nn,nn,nn,nn,nn,nn,nn,nn,nn,nn,nn,nn,nn,nn,nn,nn,nn,nn,nn,nn,nn,nn,nn,nn,nn,nn,nn⟩ (fun _ _ h => h)
      case s7 =>
       intro a w' hoff hg hdep K hK
       obtain ⟨v5, e5, f5⟩ := hdep 5 _ 24 (by kernel_rfl) rfl rfl
       obtain rfl := (f5.2.2.2.2.2.1 rfl).symm
       obtain ⟨v6, e6, f6⟩ := hdep 6 _ 25 (by kernel_rfl) rfl rfl
       obtain rfl := (f6.2.2.2.2.2.2.1 rfl).symm
       have hk1 := HK1.out; have hk3 := HK3.out
       rw [if_pos (by rfl)]
       go_simp
       exact hK.out _ _ hg ⟨nn,nn,nn,nn,nn,nn,nn, fun _ => rfl, nn,nn,nn,nn,nn,nn,nn,nn,nn,nn,nn,nn,nn,nn,nn,nn,nn,nn,nn,nn,nn,nn,nn,nn,nn,nn,nn,nn,nn,nn⟩ (fun _ _ h => h)
      case s8 =>
       intro a w' hoff hg hdep K hK
       obtain ⟨v7, e7, f7⟩ := hdep 7 _ 26 (by kernel_rfl) rfl rfl
       obtain rfl := (f7.2.2.2.2.2.2.2.1 rfl).symm
       rw [if_pos (by rfl)]
       go_simp
       exact hK.out _ _ hg ⟨nn,nn,nn,nn,nn,nn,nn,nn, fun _ => rfl, nn,nn,nn,nn,nn,nn,nn,nn,nn,nn,nn,nn,nn,nn,nn,nn,nn,nn,nn,nn,nn,nn,nn,nn,nn,nn,nn,nn,nn⟩ (fun _ _ h => h)
      case s9 =>
       intro a w' hoff hg hdep K hK
       obtain ⟨v8, e8, f8⟩ := hdep 8 _ 27 (by kernel_rfl) rfl rfl
       obtain rfl := (f8.2.2.2.2.2.2.2.2.1 rfl).symm
       rw [if_pos (by rfl)]
       have q0 := (hg.cell (p := ⟨lb, lo + k * 7, none⟩) HLB.out).trans Q0.out; have q1 := (hg.cell (p := ⟨lb, lo + k * 7 + 1, none⟩) HLB.out).trans Q1.out; have q2 := (hg.cell (p := ⟨lb, lo + k * 7 + 2, none⟩) HLB.out).trans Q2.out; have q3 := (hg.cell (p := ⟨lb, lo + k * 7 + 3, none⟩) HLB.out).trans Q3.out; have q4 := (hg.cell (p := ⟨lb, lo + k * 7 + 4, none⟩) HLB.out).trans Q4.out; have q5 := (hg.cell (p := ⟨lb, lo + k * 7 + 5, none⟩) HLB.out).trans Q5.out; have q6 := (hg.cell (p := ⟨lb, lo + k * 7 + 6, none⟩) HLB.out).trans Q6.out; have p0 := (hg.cell (p := ⟨mb, mo + k * 7, none⟩) HMB.out).trans P0.out; have p1 := (hg.cell (p := ⟨mb, mo + k * 7 + 1, none⟩) HMB.out).trans P1.out; have p2 := (hg.cell (p := ⟨mb, mo + k * 7 + 2, none⟩) HMB.out).trans P2.out; have p3 := (hg.cell (p := ⟨mb, mo + k * 7 + 3, none⟩) HMB.out).trans P3.out; have p4 := (hg.cell (p := ⟨mb, mo + k * 7 + 4, none⟩) HMB.out).trans P4.out; have p5 := (hg.cell (p := ⟨mb, mo + k * 7 + 5, none⟩) HMB.out).trans P5.out; have p6 := (hg.cell (p := ⟨mb, mo + k * 7 + 6, none⟩) HMB.out).trans P6.out
       go_simp
       exact hK.out _ _ hg ⟨nn,nn,nn,nn,nn,nn,nn,nn,nn, fun _ => rfl, nn,nn,nn,nn,nn,nn,nn,nn,nn,nn,nn,nn,nn,nn,nn,nn,nn,nn,nn,nn,nn,nn,nn,nn,nn,nn,nn,nn⟩ (fun _ _ h => h)
      case s10 =>
       intro a w' hoff hg hdep K hK
       obtain ⟨v4, e4, f4⟩ := hdep 4 _ 23 (by kernel_rfl) rfl rfl
       obtain rfl := (f4.2.2.2.2.1 rfl).symm
       obtain ⟨v9, e9, f9⟩ := hdep 9 _ 28 (by kernel_rfl) rfl rfl
       obtain rfl := (f9.2.2.2.2.2.2.2.2.2.1 rfl).symm
       rw [if_pos (by rfl)]
       have hkk := HKK.out
       go_simp
       exact hK.out _ _ hg ⟨nn,nn,nn,nn,nn,nn,nn,nn,nn,nn, fun _ => rfl, nn,nn,nn,nn,nn,nn,nn,nn,nn,nn,nn,nn,nn,nn,nn,nn,nn,nn,nn,nn,nn,nn,nn,nn,nn,nn,nn⟩ (fun _ _ h => h)
      case s11 =>
       intro a w' hoff hg hdep K hK
       obtain ⟨v10, e10, f10⟩ := hdep 10 _ 29 (by kernel_rfl) rfl rfl
       obtain rfl := (f10.2.2.2.2.2.2.2.2.2.2.1 rfl).symm
       rw [if_pos (by rfl)]
       go_simp
       exact hK.out _ _ hg ⟨nn,nn,nn,nn,nn,nn,nn,nn,nn,nn,nn, fun _ => rfl, nn,nn,nn,nn,nn,nn,nn,nn,nn,nn,nn,nn,nn,nn,nn,nn,nn,nn,nn,nn,nn,nn,nn,nn,nn,nn⟩ (fun _ _ h => h)
      case s12 =>
       intro a w' hoff hg hdep K hK
       have h0 := off_at hoff 0 (v := .slice (some ⟨lb, lo, none⟩) l.length ac) (by kernel_rfl) rfl
       obtain ⟨v11, e11, f11⟩ := hdep 11 _ 30 (by kernel_rfl) rfl rfl
       obtain rfl := (f11.2.2.2.2.2.2.2.2.2.2.2.1 rfl).symm
       rw [if_pos (by simp [Region.wanted, yielded, e11])]
       go_simp
       exact hK.out _ _ hg ⟨nn,nn,nn,nn,nn,nn,nn,nn,nn,nn,nn,nn, fun _ => rfl, nn,nn,nn,nn,nn,nn,nn,nn,nn,nn,nn,nn,nn,nn,nn,nn,nn,nn,nn,nn,nn,nn,nn,nn,nn⟩ (fun _ _ h => h)
      case s13 =>
       intro a w' hoff hg hdep K hK
       have h5 := off_at hoff 5 (v := .int .i64 (k : Int)) (by kernel_rfl) rfl
       obtain ⟨v11, e11, f11⟩ := hdep 11 _ 30 (by kernel_rfl) rfl rfl
       obtain rfl := (f11.2.2.2.2.2.2.2.2.2.2.2.1 rfl).symm
       rw [if_pos (by simp [Region.wanted, yielded, e11])]
       go_simp
       exact hK.out _ _ hg ⟨nn,nn,nn,nn,nn,nn,nn,nn,nn,nn,nn,nn,nn, fun _ => rfl, nn,nn,nn,nn,nn,nn,nn,nn,nn,nn,nn,nn,nn,nn,nn,nn,nn,nn,nn,nn,nn,nn,nn,nn⟩ (fun _ _ h => h)
      case s14 =>
       intro a w' hoff hg hdep K hK
       obtain ⟨v12, e12, f12⟩ := hdep 12 _ 31 (by kernel_rfl) rfl rfl
       obtain rfl := (f12.2.2.2.2.2.2.2.2.2.2.2.2.1 rfl).symm
       obtain ⟨v13, e13, f13⟩ := hdep 13 _ 32 (by kernel_rfl) rfl rfl
       obtain rfl := (f13.2.2.2.2.2.2.2.2.2.2.2.2.2.1 rfl).symm
       obtain ⟨v11, e11, f11⟩ := hdep 11 _ 30 (by kernel_rfl) rfl rfl
       obtain rfl := (f11.2.2.2.2.2.2.2.2.2.2.2.1 rfl).symm
       have hk1 := HK1.out; have hk2 := HK2.out
       rw [if_pos (by simp [Region.wanted, yielded, e11])]
       go_simp
       exact hK.out _ _ hg ⟨nn,nn,nn,nn,nn,nn,nn,nn,nn,nn,nn,nn,nn,nn, fun _ => rfl, nn,nn,nn,nn,nn,nn,nn,nn,nn,nn,nn,nn,nn,nn,nn,nn,nn,nn,nn,nn,nn,nn,nn⟩ (fun _ _ h => h)
      case s15 =>
       intro a w' hoff hg hdep K hK
       obtain ⟨v14, e14, f14⟩ := hdep 14 _ 33 (by kernel_rfl) rfl rfl
       obtain rfl := (f14.2.2.2.2.2.2.2.2.2.2.2.2.2.2.1 rfl).symm
       obtain ⟨v11, e11, f11⟩ := hdep 11 _ 30 (by kernel_rfl) rfl rfl
       obtain rfl := (f11.2.2.2.2.2.2.2.2.2.2.2.1 rfl).symm
       rw [if_pos (by simp [Region.wanted, yielded, e11])]
       go_simp
       exact hK.out _ _ hg ⟨nn,nn,nn,nn,nn,nn,nn,nn,nn,nn,nn,nn,nn,nn,nn, fun _ => rfl, nn,nn,nn,nn,nn,nn,nn,nn,nn,nn,nn,nn,nn,nn,nn,nn,nn,nn,nn,nn,nn,nn⟩ (fun _ _ h => h)
      case s16 =>
       intro a w' hoff hg hdep K hK
       obtain ⟨v15, e15, f15⟩ := hdep 15 _ 34 (by kernel_rfl) rfl rfl
       obtain rfl := (f15.2.2.2.2.2.2.2.2.2.2.2.2.2.2.2.1 rfl).symm
       obtain ⟨v11, e11, f11⟩ := hdep 11 _ 30 (by kernel_rfl) rfl rfl
       obtain rfl := (f11.2.2.2.2.2.2.2.2.2.2.2.1 rfl).symm
       rw [if_pos (by simp [Region.wanted, yielded, e11])]
       have q0 := (hg.cell (p := ⟨lb, lo + k * 7, none⟩) HLB.out).trans Q0.out; have q1 := (hg.cell (p := ⟨lb, lo + k * 7 + 1, none⟩) HLB.out).trans Q1.out; have q2 := (hg.cell (p := ⟨lb, lo + k * 7 + 2, none⟩) HLB.out).trans Q2.out; have q3 := (hg.cell (p := ⟨lb, lo + k * 7 + 3, none⟩) HLB.out).trans Q3.out; have q4 := (hg.cell (p := ⟨lb, lo + k * 7 + 4, none⟩) HLB.out).trans Q4.out; have q5 := (hg.cell (p := ⟨lb, lo + k * 7 + 5, none⟩) HLB.out).trans Q5.out; have q6 := (hg.cell (p := ⟨lb, lo + k * 7 + 6, none⟩) HLB.out).trans Q6.out; have p0 := (hg.cell (p := ⟨mb, mo + k * 7, none⟩) HMB.out).trans P0.out; have p1 := (hg.cell (p := ⟨mb, mo + k * 7 + 1, none⟩) HMB.out).trans P1.out; have p2 := (hg.cell (p := ⟨mb, mo + k * 7 + 2, none⟩) HMB.out).trans P2.out; have p3 := (hg.cell (p := ⟨mb, mo + k * 7 + 3, none⟩) HMB.out).trans P3.out; have p4 := (hg.cell (p := ⟨mb, mo + k * 7 + 4, none⟩) HMB.out).trans P4.out; have p5 := (hg.cell (p := ⟨mb, mo + k * 7 + 5, none⟩) HMB.out).trans P5.out; have p6 := (hg.cell (p := ⟨mb, mo + k * 7 + 6, none⟩) HMB.out).trans P6.out
       go_simp
       exact hK.out _ _ hg ⟨nn,nn,nn,nn,nn,nn,nn,nn,nn,nn,nn,nn,nn,nn,nn,nn, fun _ => rfl, nn,nn,nn,nn,nn,nn,nn,nn,nn,nn,nn,nn,nn,nn,nn,nn,nn,nn,nn,nn,nn⟩ (fun _ _ h => h)
      case s17 =>
       intro a w' hoff hg hdep K hK
       have h1 := off_at hoff 1 (v := .slice (some ⟨mb, mo, none⟩) m.length bc) (by kernel_rfl) rfl
       obtain ⟨v11, e11, f11⟩ := hdep 11 _ 30 (by kernel_rfl) rfl rfl
       obtain rfl := (f11.2.2.2.2.2.2.2.2.2.2.2.1 rfl).symm
       rw [if_pos (by simp [Region.wanted, yielded, e11])]
       go_simp
       exact hK.out _ _ hg ⟨nn,nn,nn,nn,nn,nn,nn,nn,nn,nn,nn,nn,nn,nn,nn,nn,nn, fun _ => rfl, nn,nn,nn,nn,nn,nn,nn,nn,nn,nn,nn,nn,nn,nn,nn,nn,nn,nn,nn,nn⟩ (fun _ _ h => h)
      case s18 =>
       intro a w' hoff hg hdep K hK
       have h5 := off_at hoff 5 (v := .int .i64 (k : Int)) (by kernel_rfl) rfl
       obtain ⟨v11, e11, f11⟩ := hdep 11 _ 30 (by kernel_rfl) rfl rfl
       obtain rfl := (f11.2.2.2.2.2.2.2.2.2.2.2.1 rfl).symm
       rw [if_pos (by simp [Region.wanted, yielded, e11])]
       go_simp
       exact hK.out _ _ hg ⟨nn,nn,nn,nn,nn,nn,nn,nn,nn,nn,nn,nn,nn,nn,nn,nn,nn,nn, fun _ => rfl, nn,nn,nn,nn,nn,nn,nn,nn,nn,nn,nn,nn,nn,nn,nn,nn,nn,nn,nn⟩ (fun _ _ h => h)
      case s19 =>
       intro a w' hoff hg hdep K hK
       obtain ⟨v17, e17, f17⟩ := hdep 17 _ 36 (by kernel_rfl) rfl rfl
       obtain rfl := (f17.2.2.2.2.2.2.2.2.2.2.2.2.2.2.2.2.2.1 rfl).symm
       obtain ⟨v18, e18, f18⟩ := hdep 18 _ 37 (by kernel_rfl) rfl rfl
       obtain rfl := (f18.2.2.2.2.2.2.2.2.2.2.2.2.2.2.2.2.2.2.1 rfl).symm
       obtain ⟨v11, e11, f11⟩ := hdep 11 _ 30 (by kernel_rfl) rfl rfl
       obtain rfl := (f11.2.2.2.2.2.2.2.2.2.2.2.1 rfl).symm
       have hk1 := HK1.out; have hk3 := HK3.out
       rw [if_pos (by simp [Region.wanted, yielded, e11])]
       go_simp
       exact hK.out _ _ hg ⟨nn,nn,nn,nn,nn,nn,nn,nn,nn,nn,nn,nn,nn,nn,nn,nn,nn,nn,nn, fun _ => rfl, nn,nn,nn,nn,nn,nn,nn,nn,nn,nn,nn,nn,nn,nn,nn,nn,nn,nn⟩ (fun _ _ h => h)
      case s20 =>
       intro a w' hoff hg hdep K hK
       obtain ⟨v19, e19, f19⟩ := hdep 19 _ 38 (by kernel_rfl) rfl rfl
       obtain rfl := (f19.2.2.2.2.2.2.2.2.2.2.2.2.2.2.2.2.2.2.2.1 rfl).symm
       obtain ⟨v11, e11, f11⟩ := hdep 11 _ 30 (by kernel_rfl) rfl rfl
       obtain rfl := (f11.2.2.2.2.2.2.2.2.2.2.2.1 rfl).symm
       rw [if_pos (by simp [Region.wanted, yielded, e11])]
       go_simp
       exact hK.out _ _ hg ⟨nn,nn,nn,nn,nn,nn,nn,nn,nn,nn,nn,nn,nn,nn,nn,nn,nn,nn,nn,nn, fun _ => rfl, nn,nn,nn,nn,nn,nn,nn,nn,nn,nn,nn,nn,nn,nn,nn,nn,nn⟩ (fun _ _ h => h)
      case s21 =>
       intro a w' hoff hg hdep K hK
       obtain ⟨v20, e20, f20⟩ := hdep 20 _ 39 (by kernel_rfl) rfl rfl
       obtain rfl := (f20.2.2.2.2.2.2.2.2.2.2.2.2.2.2.2.2.2.2.2.2.1 rfl).symm
       obtain ⟨v11, e11, f11⟩ := hdep 11 _ 30 (by kernel_rfl) rfl rfl
       obtain rfl := (f11.2.2.2.2.2.2.2.2.2.2.2.1 rfl).symm
       rw [if_pos (by simp [Region.wanted, yielded, e11])]
       have q0 := (hg.cell (p := ⟨lb, lo + k * 7, none⟩) HLB.out).trans Q0.out; have q1 := (hg.cell (p := ⟨lb, lo + k * 7 + 1, none⟩) HLB.out).trans Q1.out; have q2 := (hg.cell (p := ⟨lb, lo + k * 7 + 2, none⟩) HLB.out).trans Q2.out; have q3 := (hg.cell (p := ⟨lb, lo + k * 7 + 3, none⟩) HLB.out).trans Q3.out; have q4 := (hg.cell (p := ⟨lb, lo + k * 7 + 4, none⟩) HLB.out).trans Q4.out; have q5 := (hg.cell (p := ⟨lb, lo + k * 7 + 5, none⟩) HLB.out).trans Q5.out; have q6 := (hg.cell (p := ⟨lb, lo + k * 7 + 6, none⟩) HLB.out).trans Q6.out; have p0 := (hg.cell (p := ⟨mb, mo + k * 7, none⟩) HMB.out).trans P0.out; have p1 := (hg.cell (p := ⟨mb, mo + k * 7 + 1, none⟩) HMB.out).trans P1.out; have p2 := (hg.cell (p := ⟨mb, mo + k * 7 + 2, none⟩) HMB.out).trans P2.out; have p3 := (hg.cell (p := ⟨mb, mo + k * 7 + 3, none⟩) HMB.out).trans P3.out; have p4 := (hg.cell (p := ⟨mb, mo + k * 7 + 4, none⟩) HMB.out).trans P4.out; have p5 := (hg.cell (p := ⟨mb, mo + k * 7 + 5, none⟩) HMB.out).trans P5.out; have p6 := (hg.cell (p := ⟨mb, mo + k * 7 + 6, none⟩) HMB.out).trans P6.out
       go_simp
       exact hK.out _ _ hg ⟨nn,nn,nn,nn,nn,nn,nn,nn,nn,nn,nn,nn,nn,nn,nn,nn,nn,nn,nn,nn,nn, fun _ => rfl, nn,nn,nn,nn,nn,nn,nn,nn,nn,nn,nn,nn,nn,nn,nn,nn⟩ (fun _ _ h => h)
      case s22 =>
       intro a w' hoff hg hdep K hK
       obtain ⟨v16, e16, f16⟩ := hdep 16 _ 35 (by kernel_rfl) rfl rfl
       obtain rfl := (f16.2.2.2.2.2.2.2.2.2.2.2.2.2.2.2.2.1 rfl).symm
       obtain ⟨v21, e21, f21⟩ := hdep 21 _ 40 (by kernel_rfl) rfl rfl
       obtain rfl := (f21.2.2.2.2.2.2.2.2.2.2.2.2.2.2.2.2.2.2.2.2.2.1 rfl).symm
       obtain ⟨v11, e11, f11⟩ := hdep 11 _ 30 (by kernel_rfl) rfl rfl
       obtain rfl := (f11.2.2.2.2.2.2.2.2.2.2.2.1 rfl).symm
       rw [if_pos (by simp [Region.wanted, yielded, e11])]
       have hnn := HNN.out
       go_simp
       exact hK.out _ _ hg ⟨nn,nn,nn,nn,nn,nn,nn,nn,nn,nn,nn,nn,nn,nn,nn,nn,nn,nn,nn,nn,nn,nn, fun _ => rfl, nn,nn,nn,nn,nn,nn,nn,nn,nn,nn,nn,nn,nn,nn,nn⟩ (fun _ _ h => h)
      case s23 =>
       intro a w' hoff hg hdep K hK
       obtain ⟨v11, e11, f11⟩ := hdep 11 _ 30 (by kernel_rfl) rfl rfl
       obtain rfl := (f11.2.2.2.2.2.2.2.2.2.2.2.1 rfl).symm
       obtain ⟨v22, e22, f22⟩ := hdep 22 _ 41 (by kernel_rfl) rfl rfl
       obtain rfl := (f22.2.2.2.2.2.2.2.2.2.2.2.2.2.2.2.2.2.2.2.2.2.2.1 rfl).symm
       rw [if_pos (by rfl)]
       go_simp
       exact hK.out _ _ hg ⟨nn,nn,nn,nn,nn,nn,nn,nn,nn,nn,nn,nn,nn,nn,nn,nn,nn,nn,nn,nn,nn,nn,nn, fun _ => rfl, nn,nn,nn,nn,nn,nn,nn,nn,nn,nn,nn,nn,nn,nn⟩ (fun _ _ h => h)
      case s24 =>
       intro a w' hoff hg hdep K hK
       obtain ⟨v23, e23, f23⟩ := hdep 23 _ 42 (by kernel_rfl) rfl rfl
       obtain rfl := (f23.2.2.2.2.2.2.2.2.2.2.2.2.2.2.2.2.2.2.2.2.2.2.2.1 rfl).symm
       rw [if_pos (by rfl)]
       go_simp
       exact hK.out _ _ hg ⟨nn,nn,nn,nn,nn,nn,nn,nn,nn,nn,nn,nn,nn,nn,nn,nn,nn,nn,nn,nn,nn,nn,nn,nn, fun _ => rfl, nn,nn,nn,nn,nn,nn,nn,nn,nn,nn,nn,nn,nn⟩ (fun _ _ h => h)
      case s25 =>
       intro a w' hoff hg hdep K hK
       have h0 := off_at hoff 0 (v := .slice (some ⟨lb, lo, none⟩) l.length ac) (by kernel_rfl) rfl
       obtain ⟨v24, e24, f24⟩ := hdep 24 _ 43 (by kernel_rfl) rfl rfl
       obtain rfl := (f24.2.2.2.2.2.2.2.2.2.2.2.2.2.2.2.2.2.2.2.2.2.2.2.2.1 rfl).symm
       rw [if_pos (by simp [Region.wanted, yielded, e24])]
       go_simp
       exact hK.out _ _ hg ⟨nn,nn,nn,nn,nn,nn,nn,nn,nn,nn,nn,nn,nn,nn,nn,nn,nn,nn,nn,nn,nn,nn,nn,nn,nn, fun _ => rfl, nn,nn,nn,nn,nn,nn,nn,nn,nn,nn,nn,nn⟩ (fun _ _ h => h)
      case s26 =>
       intro a w' hoff hg hdep K hK
       have h5 := off_at hoff 5 (v := .int .i64 (k : Int)) (by kernel_rfl) rfl
       obtain ⟨v24, e24, f24⟩ := hdep 24 _ 43 (by kernel_rfl) rfl rfl
       obtain rfl := (f24.2.2.2.2.2.2.2.2.2.2.2.2.2.2.2.2.2.2.2.2.2.2.2.2.1 rfl).symm
       rw [if_pos (by simp [Region.wanted, yielded, e24])]
       go_simp
       exact hK.out _ _ hg ⟨nn,nn,nn,nn,nn,nn,nn,nn,nn,nn,nn,nn,nn,nn,nn,nn,nn,nn,nn,nn,nn,nn,nn,nn,nn,nn, fun _ => rfl, nn,nn,nn,nn,nn,nn,nn,nn,nn,nn,nn⟩ (fun _ _ h => h)
      case s27 =>
       intro a w' hoff hg hdep K hK
       obtain ⟨v25, e25, f25⟩ := hdep 25 _ 44 (by kernel_rfl) rfl rfl
       obtain rfl := (f25.2.2.2.2.2.2.2.2.2.2.2.2.2.2.2.2.2.2.2.2.2.2.2.2.2.1 rfl).symm
       obtain ⟨v26, e26, f26⟩ := hdep 26 _ 45 (by kernel_rfl) rfl rfl
       obtain rfl := (f26.2.2.2.2.2.2.2.2.2.2.2.2.2.2.2.2.2.2.2.2.2.2.2.2.2.2.1 rfl).symm
       obtain ⟨v24, e24, f24⟩ := hdep 24 _ 43 (by kernel_rfl) rfl rfl
       obtain rfl := (f24.2.2.2.2.2.2.2.2.2.2.2.2.2.2.2.2.2.2.2.2.2.2.2.2.1 rfl).symm
       have hk1 := HK1.out; have hk2 := HK2.out
       rw [if_pos (by simp [Region.wanted, yielded, e24])]
       go_simp
       exact hK.out _ _ hg ⟨nn,nn,nn,nn,nn,nn,nn,nn,nn,nn,nn,nn,nn,nn,nn,nn,nn,nn,nn,nn,nn,nn,nn,nn,nn,nn,nn, fun _ => rfl, nn,nn,nn,nn,nn,nn,nn,nn,nn,nn⟩ (fun _ _ h => h)
      case s28 =>
       intro a w' hoff hg hdep K hK
       obtain ⟨v27, e27, f27⟩ := hdep 27 _ 46 (by kernel_rfl) rfl rfl
       obtain rfl := (f27.2.2.2.2.2.2.2.2.2.2.2.2.2.2.2.2.2.2.2.2.2.2.2.2.2.2.2.1 rfl).symm
       obtain ⟨v24, e24, f24⟩ := hdep 24 _ 43 (by kernel_rfl) rfl rfl
       obtain rfl := (f24.2.2.2.2.2.2.2.2.2.2.2.2.2.2.2.2.2.2.2.2.2.2.2.2.1 rfl).symm
       rw [if_pos (by simp [Region.wanted, yielded, e24])]
       go_simp
       exact hK.out _ _ hg ⟨nn,nn,nn,nn,nn,nn,nn,nn,nn,nn,nn,nn,nn,nn,nn,nn,nn,nn,nn,nn,nn,nn,nn,nn,nn,nn,nn,nn, fun _ => rfl, nn,nn,nn,nn,nn,nn,nn,nn,nn⟩ (fun _ _ h => h)
      case s29 =>
       intro a w' hoff hg hdep K hK
       obtain ⟨v28, e28, f28⟩ := hdep 28 _ 47 (by kernel_rfl) rfl rfl
       obtain rfl := (f28.2.2.2.2.2.2.2.2.2.2.2.2.2.2.2.2.2.2.2.2.2.2.2.2.2.2.2.2.1 rfl).symm
       obtain ⟨v24, e24, f24⟩ := hdep 24 _ 43 (by kernel_rfl) rfl rfl
       obtain rfl := (f24.2.2.2.2.2.2.2.2.2.2.2.2.2.2.2.2.2.2.2.2.2.2.2.2.1 rfl).symm
       rw [if_pos (by simp [Region.wanted, yielded, e24])]
       have q0 := (hg.cell (p := ⟨lb, lo + k * 7, none⟩) HLB.out).trans Q0.out; have q1 := (hg.cell (p := ⟨lb, lo + k * 7 + 1, none⟩) HLB.out).trans Q1.out; have q2 := (hg.cell (p := ⟨lb, lo + k * 7 + 2, none⟩) HLB.out).trans Q2.out; have q3 := (hg.cell (p := ⟨lb, lo + k * 7 + 3, none⟩) HLB.out).trans Q3.out; have q4 := (hg.cell (p := ⟨lb, lo + k * 7 + 4, none⟩) HLB.out).trans Q4.out; have q5 := (hg.cell (p := ⟨lb, lo + k * 7 + 5, none⟩) HLB.out).trans Q5.out; have q6 := (hg.cell (p := ⟨lb, lo + k * 7 + 6, none⟩) HLB.out).trans Q6.out; have p0 := (hg.cell (p := ⟨mb, mo + k * 7, none⟩) HMB.out).trans P0.out; have p1 := (hg.cell (p := ⟨mb, mo + k * 7 + 1, none⟩) HMB.out).trans P1.out; have p2 := (hg.cell (p := ⟨mb, mo + k * 7 + 2, none⟩) HMB.out).trans P2.out; have p3 := (hg.cell (p := ⟨mb, mo + k * 7 + 3, none⟩) HMB.out).trans P3.out; have p4 := (hg.cell (p := ⟨mb, mo + k * 7 + 4, none⟩) HMB.out).trans P4.out; have p5 := (hg.cell (p := ⟨mb, mo + k * 7 + 5, none⟩) HMB.out).trans P5.out; have p6 := (hg.cell (p := ⟨mb, mo + k * 7 + 6, none⟩) HMB.out).trans P6.out
       go_simp
       exact hK.out _ _ hg ⟨nn,nn,nn,nn,nn,nn,nn,nn,nn,nn,nn,nn,nn,nn,nn,nn,nn,nn,nn,nn,nn,nn,nn,nn,nn,nn,nn,nn,nn, fun _ => rfl, nn,nn,nn,nn,nn,nn,nn,nn⟩ (fun _ _ h => h)
      case s30 =>
       intro a w' hoff hg hdep K hK
       have h1 := off_at hoff 1 (v := .slice (some ⟨mb, mo, none⟩) m.length bc) (by kernel_rfl) rfl
       obtain ⟨v24, e24, f24⟩ := hdep 24 _ 43 (by kernel_rfl) rfl rfl
       obtain rfl := (f24.2.2.2.2.2.2.2.2.2.2.2.2.2.2.2.2.2.2.2.2.2.2.2.2.1 rfl).symm
       rw [if_pos (by simp [Region.wanted, yielded, e24])]
       go_simp
       exact hK.out _ _ hg ⟨nn,nn,nn,nn,nn,nn,nn,nn,nn,nn,nn,nn,nn,nn,nn,nn,nn,nn,nn,nn,nn,nn,nn,nn,nn,nn,nn,nn,nn,nn, fun _ => rfl, nn,nn,nn,nn,nn,nn,nn⟩ (fun _ _ h => h)
      case s31 =>
       intro a w' hoff hg hdep K hK
       have h5 := off_at hoff 5 (v := .int .i64 (k : Int)) (by kernel_rfl) rfl
       obtain ⟨v24, e24, f24⟩ := hdep 24 _ 43 (by kernel_rfl) rfl rfl
       obtain rfl := (f24.2.2.2.2.2.2.2.2.2.2.2.2.2.2.2.2.2.2.2.2.2.2.2.2.1 rfl).symm
       rw [if_pos (by simp [Region.wanted, yielded, e24])]
       go_simp
       exact hK.out _ _ hg ⟨nn,nn,nn,nn,nn,nn,nn,nn,nn,nn,nn,nn,nn,nn,nn,nn,nn,nn,nn,nn,nn,nn,nn,nn,nn,nn,nn,nn,nn,nn,nn, fun _ => rfl, nn,nn,nn,nn,nn,nn⟩ (fun _ _ h => h)
      case s32 =>
       intro a w' hoff hg hdep K hK
       obtain ⟨v30, e30, f30⟩ := hdep 30 _ 49 (by kernel_rfl) rfl rfl
       obtain rfl := (f30.2.2.2.2.2.2.2.2.2.2.2.2.2.2.2.2.2.2.2.2.2.2.2.2.2.2.2.2.2.2.1 rfl).symm
       obtain ⟨v31, e31, f31⟩ := hdep 31 _ 50 (by kernel_rfl) rfl rfl
       obtain rfl := (f31.2.2.2.2.2.2.2.2.2.2.2.2.2.2.2.2.2.2.2.2.2.2.2.2.2.2.2.2.2.2.2.1 rfl).symm
       obtain ⟨v24, e24, f24⟩ := hdep 24 _ 43 (by kernel_rfl) rfl rfl
       obtain rfl := (f24.2.2.2.2.2.2.2.2.2.2.2.2.2.2.2.2.2.2.2.2.2.2.2.2.1 rfl).symm
       have hk1 := HK1.out; have hk3 := HK3.out
       rw [if_pos (by simp [Region.wanted, yielded, e24])]
       go_simp
       exact hK.out _ _ hg ⟨nn,nn,nn,nn,nn,nn,nn,nn,nn,nn,nn,nn,nn,nn,nn,nn,nn,nn,nn,nn,nn,nn,nn,nn,nn,nn,nn,nn,nn,nn,nn,nn, fun _ => rfl, nn,nn,nn,nn,nn⟩ (fun _ _ h => h)
      case s33 =>
       intro a w' hoff hg hdep K hK
       obtain ⟨v32, e32, f32⟩ := hdep 32 _ 51 (by kernel_rfl) rfl rfl
       obtain rfl := (f32.2.2.2.2.2.2.2.2.2.2.2.2.2.2.2.2.2.2.2.2.2.2.2.2.2.2.2.2.2.2.2.2.1 rfl).symm
       obtain ⟨v24, e24, f24⟩ := hdep 24 _ 43 (by kernel_rfl) rfl rfl
       obtain rfl := (f24.2.2.2.2.2.2.2.2.2.2.2.2.2.2.2.2.2.2.2.2.2.2.2.2.1 rfl).symm
       rw [if_pos (by simp [Region.wanted, yielded, e24])]
       go_simp
       exact hK.out _ _ hg ⟨nn,nn,nn,nn,nn,nn,nn,nn,nn,nn,nn,nn,nn,nn,nn,nn,nn,nn,nn,nn,nn,nn,nn,nn,nn,nn,nn,nn,nn,nn,nn,nn,nn, fun _ => rfl, nn,nn,nn,nn⟩ (fun _ _ h => h)
      case s34 =>
       intro a w' hoff hg hdep K hK
       obtain ⟨v33, e33, f33⟩ := hdep 33 _ 52 (by kernel_rfl) rfl rfl
       obtain rfl := (f33.2.2.2.2.2.2.2.2.2.2.2.2.2.2.2.2.2.2.2.2.2.2.2.2.2.2.2.2.2.2.2.2.2.1 rfl).symm
       obtain ⟨v24, e24, f24⟩ := hdep 24 _ 43 (by kernel_rfl) rfl rfl
       obtain rfl := (f24.2.2.2.2.2.2.2.2.2.2.2.2.2.2.2.2.2.2.2.2.2.2.2.2.1 rfl).symm
       rw [if_pos (by simp [Region.wanted, yielded, e24])]
       have q0 := (hg.cell (p := ⟨lb, lo + k * 7, none⟩) HLB.out).trans Q0.out; have q1 := (hg.cell (p := ⟨lb, lo + k * 7 + 1, none⟩) HLB.out).trans Q1.out; have q2 := (hg.cell (p := ⟨lb, lo + k * 7 + 2, none⟩) HLB.out).trans Q2.out; have q3 := (hg.cell (p := ⟨lb, lo + k * 7 + 3, none⟩) HLB.out).trans Q3.out; have q4 := (hg.cell (p := ⟨lb, lo + k * 7 + 4, none⟩) HLB.out).trans Q4.out; have q5 := (hg.cell (p := ⟨lb, lo + k * 7 + 5, none⟩) HLB.out).trans Q5.out; have q6 := (hg.cell (p := ⟨lb, lo + k * 7 + 6, none⟩) HLB.out).trans Q6.out; have p0 := (hg.cell (p := ⟨mb, mo + k * 7, none⟩) HMB.out).trans P0.out; have p1 := (hg.cell (p := ⟨mb, mo + k * 7 + 1, none⟩) HMB.out).trans P1.out; have p2 := (hg.cell (p := ⟨mb, mo + k * 7 + 2, none⟩) HMB.out).trans P2.out; have p3 := (hg.cell (p := ⟨mb, mo + k * 7 + 3, none⟩) HMB.out).trans P3.out; have p4 := (hg.cell (p := ⟨mb, mo + k * 7 + 4, none⟩) HMB.out).trans P4.out; have p5 := (hg.cell (p := ⟨mb, mo + k * 7 + 5, none⟩) HMB.out).trans P5.out; have p6 := (hg.cell (p := ⟨mb, mo + k * 7 + 6, none⟩) HMB.out).trans P6.out
       go_simp
       exact hK.out _ _ hg ⟨nn,nn,nn,nn,nn,nn,nn,nn,nn,nn,nn,nn,nn,nn,nn,nn,nn,nn,nn,nn,nn,nn,nn,nn,nn,nn,nn,nn,nn,nn,nn,nn,nn,nn, fun _ => rfl, nn,nn,nn⟩ (fun _ _ h => h)
      case s35 =>
       intro a w' hoff hg hdep K hK
       obtain ⟨v29, e29, f29⟩ := hdep 29 _ 48 (by kernel_rfl) rfl rfl
       obtain rfl := (f29.2.2.2.2.2.2.2.2.2.2.2.2.2.2.2.2.2.2.2.2.2.2.2.2.2.2.2.2.2.1 rfl).symm
       obtain ⟨v34, e34, f34⟩ := hdep 34 _ 53 (by kernel_rfl) rfl rfl
       obtain rfl := (f34.2.2.2.2.2.2.2.2.2.2.2.2.2.2.2.2.2.2.2.2.2.2.2.2.2.2.2.2.2.2.2.2.2.2.1 rfl).symm
       obtain ⟨v24, e24, f24⟩ := hdep 24 _ 43 (by kernel_rfl) rfl rfl
       obtain rfl := (f24.2.2.2.2.2.2.2.2.2.2.2.2.2.2.2.2.2.2.2.2.2.2.2.2.1 rfl).symm
       rw [if_pos (by simp [Region.wanted, yielded, e24])]
       go_simp
       refine (same_any x.val y.val w'.heap.size w' _ _ _ _ _ _ _ _ (Nat.le_refl _) (RepG.on (fun j hj => Nat.lt_of_lt_of_le (HSR.out j hj) hg.size) (fun j hj => hg.block j (HSR.out j hj)) x.val GX.out.value) (RepG.on (fun j hj => Nat.lt_of_lt_of_le (HSR.out j hj) hg.size) (fun j hj => hg.block j (HSR.out j hj)) y.val GY.out.value)).mono ?_
       rw [HV1.out]
       rintro e w2' ⟨rfl, hb⟩
       exact hK.out _ _ (Below.step hg hb) ⟨nn,nn,nn,nn,nn,nn,nn,nn,nn,nn,nn,nn,nn,nn,nn,nn,nn,nn,nn,nn,nn,nn,nn,nn,nn,nn,nn,nn,nn,nn,nn,nn,nn,nn,nn, fun _ => rfl, nn,nn⟩ (fun _ _ h => ⟨h.1, h.2.1, h.2.2.1, h.2.2.2.1, h.2.2.2.2.1, h.2.2.2.2.2.1, h.2.2.2.2.2.2.1, h.2.2.2.2.2.2.2.1, h.2.2.2.2.2.2.2.2.1, h.2.2.2.2.2.2.2.2.2.1, h.2.2.2.2.2.2.2.2.2.2.1, h.2.2.2.2.2.2.2.2.2.2.2.1, h.2.2.2.2.2.2.2.2.2.2.2.2.1, h.2.2.2.2.2.2.2.2.2.2.2.2.2.1, h.2.2.2.2.2.2.2.2.2.2.2.2.2.2.1, h.2.2.2.2.2.2.2.2.2.2.2.2.2.2.2.1, h.2.2.2.2.2.2.2.2.2.2.2.2.2.2.2.2.1, h.2.2.2.2.2.2.2.2.2.2.2.2.2.2.2.2.2.1, h.2.2.2.2.2.2.2.2.2.2.2.2.2.2.2.2.2.2.1, h.2.2.2.2.2.2.2.2.2.2.2.2.2.2.2.2.2.2.2.1, h.2.2.2.2.2.2.2.2.2.2.2.2.2.2.2.2.2.2.2.2.1, h.2.2.2.2.2.2.2.2.2.2.2.2.2.2.2.2.2.2.2.2.2.1, h.2.2.2.2.2.2.2.2.2.2.2.2.2.2.2.2.2.2.2.2.2.2.1, h.2.2.2.2.2.2.2.2.2.2.2.2.2.2.2.2.2.2.2.2.2.2.2.1, h.2.2.2.2.2.2.2.2.2.2.2.2.2.2.2.2.2.2.2.2.2.2.2.2.1, h.2.2.2.2.2.2.2.2.2.2.2.2.2.2.2.2.2.2.2.2.2.2.2.2.2.1, h.2.2.2.2.2.2.2.2.2.2.2.2.2.2.2.2.2.2.2.2.2.2.2.2.2.2.1, h.2.2.2.2.2.2.2.2.2.2.2.2.2.2.2.2.2.2.2.2.2.2.2.2.2.2.2.1, h.2.2.2.2.2.2.2.2.2.2.2.2.2.2.2.2.2.2.2.2.2.2.2.2.2.2.2.2.1, h.2.2.2.2.2.2.2.2.2.2.2.2.2.2.2.2.2.2.2.2.2.2.2.2.2.2.2.2.2.1, h.2.2.2.2.2.2.2.2.2.2.2.2.2.2.2.2.2.2.2.2.2.2.2.2.2.2.2.2.2.2.1, h.2.2.2.2.2.2.2.2.2.2.2.2.2.2.2.2.2.2.2.2.2.2.2.2.2.2.2.2.2.2.2.1, h.2.2.2.2.2.2.2.2.2.2.2.2.2.2.2.2.2.2.2.2.2.2.2.2.2.2.2.2.2.2.2.2.1, h.2.2.2.2.2.2.2.2.2.2.2.2.2.2.2.2.2.2.2.2.2.2.2.2.2.2.2.2.2.2.2.2.2.1, h.2.2.2.2.2.2.2.2.2.2.2.2.2.2.2.2.2.2.2.2.2.2.2.2.2.2.2.2.2.2.2.2.2.2.1, h.2.2.2.2.2.2.2.2.2.2.2.2.2.2.2.2.2.2.2.2.2.2.2.2.2.2.2.2.2.2.2.2.2.2.2.1, h.2.2.2.2.2.2.2.2.2.2.2.2.2.2.2.2.2.2.2.2.2.2.2.2.2.2.2.2.2.2.2.2.2.2.2.2.1, h.2.2.2.2.2.2.2.2.2.2.2.2.2.2.2.2.2.2.2.2.2.2.2.2.2.2.2.2.2.2.2.2.2.2.2.2.2⟩)
      case s36 =>
       intro a w' hoff hg hdep K hK
       obtain ⟨v24, e24, f24⟩ := hdep 24 _ 43 (by kernel_rfl) rfl rfl
       obtain rfl := (f24.2.2.2.2.2.2.2.2.2.2.2.2.2.2.2.2.2.2.2.2.2.2.2.2.1 rfl).symm
       obtain ⟨v35, e35, f35⟩ := hdep 35 _ 54 (by kernel_rfl) rfl rfl
       obtain rfl := (f35.2.2.2.2.2.2.2.2.2.2.2.2.2.2.2.2.2.2.2.2.2.2.2.2.2.2.2.2.2.2.2.2.2.2.2.1 rfl).symm
       rw [if_pos (by rfl)]
       go_simp
       exact hK.out _ _ hg ⟨nn,nn,nn,nn,nn,nn,nn,nn,nn,nn,nn,nn,nn,nn,nn,nn,nn,nn,nn,nn,nn,nn,nn,nn,nn,nn,nn,nn,nn,nn,nn,nn,nn,nn,nn,nn, fun _ => rfl, nn⟩ (fun _ _ h => h)
      case s37 =>
       intro a w' hoff hg hdep K hK
       obtain ⟨v36, e36, f36⟩ := hdep 36 _ 55 (by kernel_rfl) rfl rfl
       obtain rfl := (f36.2.2.2.2.2.2.2.2.2.2.2.2.2.2.2.2.2.2.2.2.2.2.2.2.2.2.2.2.2.2.2.2.2.2.2.2.1 rfl).symm
       rw [if_pos (by rfl)]
       go_simp
       exact hK.out _ _ hg ⟨nn,nn,nn,nn,nn,nn,nn,nn,nn,nn,nn,nn,nn,nn,nn,nn,nn,nn,nn,nn,nn,nn,nn,nn,nn,nn,nn,nn,nn,nn,nn,nn,nn,nn,nn,nn,nn, fun _ => rfl⟩ (fun _ _ h => h)
      case fin =>
       intro a w9 hoff hg hf
       obtain ⟨v0, e0, f0⟩ := hf 0 _ 19 rfl rfl
       obtain rfl := (f0.1 rfl).symm
       obtain ⟨v1, e1, f1⟩ := hf 1 _ 20 rfl rfl
       obtain rfl := (f1.2.1 rfl).symm
       obtain ⟨v2, e2, f2⟩ := hf 2 _ 21 rfl rfl
       obtain rfl := (f2.2.2.1 rfl).symm
       obtain ⟨v3, e3, f3⟩ := hf 3 _ 22 rfl rfl
       obtain rfl := (f3.2.2.2.1 rfl).symm
       obtain ⟨v4, e4, f4⟩ := hf 4 _ 23 rfl rfl
       obtain rfl := (f4.2.2.2.2.1 rfl).symm
       obtain ⟨v5, e5, f5⟩ := hf 5 _ 24 rfl rfl
       obtain rfl := (f5.2.2.2.2.2.1 rfl).symm
       obtain ⟨v6, e6, f6⟩ := hf 6 _ 25 rfl rfl
       obtain rfl := (f6.2.2.2.2.2.2.1 rfl).symm
       obtain ⟨v7, e7, f7⟩ := hf 7 _ 26 rfl rfl
       obtain rfl := (f7.2.2.2.2.2.2.2.1 rfl).symm
       obtain ⟨v8, e8, f8⟩ := hf 8 _ 27 rfl rfl
       obtain rfl := (f8.2.2.2.2.2.2.2.2.1 rfl).symm
       obtain ⟨v9, e9, f9⟩ := hf 9 _ 28 rfl rfl
       obtain rfl := (f9.2.2.2.2.2.2.2.2.2.1 rfl).symm
       obtain ⟨v10, e10, f10⟩ := hf 10 _ 29 rfl rfl
       obtain rfl := (f10.2.2.2.2.2.2.2.2.2.2.1 rfl).symm
       obtain ⟨v11, e11, f11⟩ := hf 11 _ 30 rfl rfl
       obtain rfl := (f11.2.2.2.2.2.2.2.2.2.2.2.1 rfl).symm
       obtain ⟨v12, e12, f12⟩ := hf 12 _ 31 rfl rfl
       obtain rfl := (f12.2.2.2.2.2.2.2.2.2.2.2.2.1 rfl).symm
       obtain ⟨v13, e13, f13⟩ := hf 13 _ 32 rfl rfl
       obtain rfl := (f13.2.2.2.2.2.2.2.2.2.2.2.2.2.1 rfl).symm
       obtain ⟨v14, e14, f14⟩ := hf 14 _ 33 rfl rfl
       obtain rfl := (f14.2.2.2.2.2.2.2.2.2.2.2.2.2.2.1 rfl).symm
       obtain ⟨v15, e15, f15⟩ := hf 15 _ 34 rfl rfl
       obtain rfl := (f15.2.2.2.2.2.2.2.2.2.2.2.2.2.2.2.1 rfl).symm
       obtain ⟨v16, e16, f16⟩ := hf 16 _ 35 rfl rfl
       obtain rfl := (f16.2.2.2.2.2.2.2.2.2.2.2.2.2.2.2.2.1 rfl).symm
       obtain ⟨v17, e17, f17⟩ := hf 17 _ 36 rfl rfl
       obtain rfl := (f17.2.2.2.2.2.2.2.2.2.2.2.2.2.2.2.2.2.1 rfl).symm
       obtain ⟨v18, e18, f18⟩ := hf 18 _ 37 rfl rfl
       obtain rfl := (f18.2.2.2.2.2.2.2.2.2.2.2.2.2.2.2.2.2.2.1 rfl).symm
       obtain ⟨v19, e19, f19⟩ := hf 19 _ 38 rfl rfl
       obtain rfl := (f19.2.2.2.2.2.2.2.2.2.2.2.2.2.2.2.2.2.2.2.1 rfl).symm
       obtain ⟨v20, e20, f20⟩ := hf 20 _ 39 rfl rfl
       obtain rfl := (f20.2.2.2.2.2.2.2.2.2.2.2.2.2.2.2.2.2.2.2.2.1 rfl).symm
       obtain ⟨v21, e21, f21⟩ := hf 21 _ 40 rfl rfl
       obtain rfl := (f21.2.2.2.2.2.2.2.2.2.2.2.2.2.2.2.2.2.2.2.2.2.1 rfl).symm
       obtain ⟨v22, e22, f22⟩ := hf 22 _ 41 rfl rfl
       obtain rfl := (f22.2.2.2.2.2.2.2.2.2.2.2.2.2.2.2.2.2.2.2.2.2.2.1 rfl).symm
       obtain ⟨v23, e23, f23⟩ := hf 23 _ 42 rfl rfl
       obtain rfl := (f23.2.2.2.2.2.2.2.2.2.2.2.2.2.2.2.2.2.2.2.2.2.2.2.1 rfl).symm
       obtain ⟨v24, e24, f24⟩ := hf 24 _ 43 rfl rfl
       obtain rfl := (f24.2.2.2.2.2.2.2.2.2.2.2.2.2.2.2.2.2.2.2.2.2.2.2.2.1 rfl).symm
       obtain ⟨v25, e25, f25⟩ := hf 25 _ 44 rfl rfl
       obtain rfl := (f25.2.2.2.2.2.2.2.2.2.2.2.2.2.2.2.2.2.2.2.2.2.2.2.2.2.1 rfl).symm
       obtain ⟨v26, e26, f26⟩ := hf 26 _ 45 rfl rfl
       obtain rfl := (f26.2.2.2.2.2.2.2.2.2.2.2.2.2.2.2.2.2.2.2.2.2.2.2.2.2.2.1 rfl).symm
       obtain ⟨v27, e27, f27⟩ := hf 27 _ 46 rfl rfl
       obtain rfl := (f27.2.2.2.2.2.2.2.2.2.2.2.2.2.2.2.2.2.2.2.2.2.2.2.2.2.2.2.1 rfl).symm
       obtain ⟨v28, e28, f28⟩ := hf 28 _ 47 rfl rfl
       obtain rfl := (f28.2.2.2.2.2.2.2.2.2.2.2.2.2.2.2.2.2.2.2.2.2.2.2.2.2.2.2.2.1 rfl).symm
       obtain ⟨v29, e29, f29⟩ := hf 29 _ 48 rfl rfl
       obtain rfl := (f29.2.2.2.2.2.2.2.2.2.2.2.2.2.2.2.2.2.2.2.2.2.2.2.2.2.2.2.2.2.1 rfl).symm
       obtain ⟨v30, e30, f30⟩ := hf 30 _ 49 rfl rfl
       obtain rfl := (f30.2.2.2.2.2.2.2.2.2.2.2.2.2.2.2.2.2.2.2.2.2.2.2.2.2.2.2.2.2.2.1 rfl).symm
       obtain ⟨v31, e31, f31⟩ := hf 31 _ 50 rfl rfl
       obtain rfl := (f31.2.2.2.2.2.2.2.2.2.2.2.2.2.2.2.2.2.2.2.2.2.2.2.2.2.2.2.2.2.2.2.1 rfl).symm
       obtain ⟨v32, e32, f32⟩ := hf 32 _ 51 rfl rfl
       obtain rfl := (f32.2.2.2.2.2.2.2.2.2.2.2.2.2.2.2.2.2.2.2.2.2.2.2.2.2.2.2.2.2.2.2.2.1 rfl).symm
       obtain ⟨v33, e33, f33⟩ := hf 33 _ 52 rfl rfl
       obtain rfl := (f33.2.2.2.2.2.2.2.2.2.2.2.2.2.2.2.2.2.2.2.2.2.2.2.2.2.2.2.2.2.2.2.2.2.1 rfl).symm
       obtain ⟨v34, e34, f34⟩ := hf 34 _ 53 rfl rfl
       obtain rfl := (f34.2.2.2.2.2.2.2.2.2.2.2.2.2.2.2.2.2.2.2.2.2.2.2.2.2.2.2.2.2.2.2.2.2.2.1 rfl).symm
       obtain ⟨v35, e35, f35⟩ := hf 35 _ 54 rfl rfl
       obtain rfl := (f35.2.2.2.2.2.2.2.2.2.2.2.2.2.2.2.2.2.2.2.2.2.2.2.2.2.2.2.2.2.2.2.2.2.2.2.1 rfl).symm
       obtain ⟨v36, e36, f36⟩ := hf 36 _ 55 rfl rfl
       obtain rfl := (f36.2.2.2.2.2.2.2.2.2.2.2.2.2.2.2.2.2.2.2.2.2.2.2.2.2.2.2.2.2.2.2.2.2.2.2.2.1 rfl).symm
       obtain ⟨v37, e37, f37⟩ := hf 37 _ 6 rfl rfl
       obtain rfl := (f37.2.2.2.2.2.2.2.2.2.2.2.2.2.2.2.2.2.2.2.2.2.2.2.2.2.2.2.2.2.2.2.2.2.2.2.2.2 rfl).symm
       rw [hoff.sets [(19, .slice (some ⟨lb, lo, none⟩) l.length ac), (20, .int .i64 (k : Int)), (21, .pointer (some ⟨lb, lo + k * 7, none⟩)), (22, .pointer (some ⟨lb, lo + k * 7, none⟩)), (23, .int .i64 x.kind), (24, .slice (some ⟨mb, mo, none⟩) m.length bc), (25, .int .i64 (k : Int)), (26, .pointer (some ⟨mb, mo + k * 7, none⟩)), (27, .pointer (some ⟨mb, mo + k * 7, none⟩)), (28, .int .i64 y.kind), (29, .bool true), (30, .bool true), (31, .slice (some ⟨lb, lo, none⟩) l.length ac), (32, .int .i64 (k : Int)), (33, .pointer (some ⟨lb, lo + k * 7, none⟩)), (34, .pointer (some ⟨lb, lo + k * 7 + 1, none⟩)), (35, .string x.name), (36, .slice (some ⟨mb, mo, none⟩) m.length bc), (37, .int .i64 (k : Int)), (38, .pointer (some ⟨mb, mo + k * 7, none⟩)), (39, .pointer (some ⟨mb, mo + k * 7 + 1, none⟩)), (40, .string y.name), (41, .bool true), (42, .bool true), (43, .bool true), (44, .slice (some ⟨lb, lo, none⟩) l.length ac), (45, .int .i64 (k : Int)), (46, .pointer (some ⟨lb, lo + k * 7, none⟩)), (47, .pointer (some ⟨lb, lo + k * 7 + 2, none⟩)), (48, .agg #[.int .i64 x.val.kind, .int .i64 x.val.num, .string x.val.text, .slice xf x.val.list.length xc]), (49, .slice (some ⟨mb, mo, none⟩) m.length bc), (50, .int .i64 (k : Int)), (51, .pointer (some ⟨mb, mo + k * 7, none⟩)), (52, .pointer (some ⟨mb, mo + k * 7 + 2, none⟩)), (53, .agg #[.int .i64 y.val.kind, .int .i64 y.val.num, .string y.val.text, .slice yf y.val.list.length yc]), (54, .bool v1), (55, .bool v1), (6, .bool v1)] (by kernel_rfl) (by intro p hp; simp only [List.mem_cons, List.not_mem_nil, or_false] at hp; rcases hp with rfl | rfl | rfl | rfl | rfl | rfl | rfl | rfl | rfl | rfl | rfl | rfl | rfl | rfl | rfl | rfl | rfl | rfl | rfl | rfl | rfl | rfl | rfl | rfl | rfl | rfl | rfl | rfl | rfl | rfl | rfl | rfl | rfl | rfl | rfl | rfl | rfl | rfl <;> assumption)]
       clear hoff hf e0 f0 e1 f1 e2 f2 e3 f3 e4 f4 e5 f5 e6 f6 e7 f7 e8 f8 e9 f9 e10 f10 e11 f11 e12 f12 e13 f13 e14 f14 e15 f15 e16 f16 e17 f17 e18 f18 e19 f19 e20 f20 e21 f21 e22 f22 e23 f23 e24 f24 e25 f25 e26 f26 e27 f27 e28 f28 e29 f29 e30 f30 e31 f31 e32 f32 e33 f33 e34 f34 e35 f35 e36 f36 e37 f37
       simp only [List.foldl_cons, List.foldl_nil, List.setIfInBounds_toArray, List.set_cons_zero, List.set_cons_succ]
       have HG9 := Lib.hid hg
       clear hg
       go_wp2_with fail
       refine wp_region_factsG (by rfl) 73 (by rfl) (by kernel_rfl) (fun wz iz vz => (iz = 0 → vz = .slice (some ⟨lb, lo, none⟩) l.length ac) ∧ (iz = 1 → vz = .int .i64 (k : Int)) ∧ (iz = 2 → vz = .pointer (some ⟨lb, lo + k * 7, none⟩)) ∧ (iz = 3 → vz = .pointer (some ⟨lb, lo + k * 7 + 6, none⟩)) ∧ (iz = 4 → vz = .slice xa x.args.length xd) ∧ (iz = 5 → vz = .slice (some ⟨mb, mo, none⟩) m.length bc) ∧ (iz = 6 → vz = .int .i64 (k : Int)) ∧ (iz = 7 → vz = .pointer (some ⟨mb, mo + k * 7, none⟩)) ∧ (iz = 8 → vz = .pointer (some ⟨mb, mo + k * 7 + 6, none⟩)) ∧ (iz = 9 → vz = .slice ya y.args.length yd) ∧ (iz = 10 → vz = .bool v2) ∧ (iz = 11 → vz = .bool v2)) (fun w' => Below w9.heap.size w9 w') (Below.drew (Below.refl _ _)) ⟨?s0, ?s1, ?s2, ?s3, ?s4, ?s5, ?s6, ?s7, ?s8, ?s9, ?s10, ?s11, trivial⟩ ?fin
       case s0 =>
        intro a w' hoff hg hdep K hK
        have h0 := off_at hoff 0 (v := .slice (some ⟨lb, lo, none⟩) l.length ac) (by kernel_rfl) rfl
        rw [if_pos (by rfl)]
        go_simp
        exact hK.out _ _ hg ⟨fun _ => rfl, nn,nn,nn,nn,nn,nn,nn,nn,nn,nn,nn⟩ (fun _ _ h => h)
       case s1 =>
        intro a w' hoff hg hdep K hK
        have h5 := off_at hoff 5 (v := .int .i64 (k : Int)) (by kernel_rfl) rfl
        rw [if_pos (by rfl)]
        go_simp
        exact hK.out _ _ hg ⟨nn, fun _ => rfl, nn,nn,nn,nn,nn,nn,nn,nn,nn,nn⟩ (fun _ _ h => h)
       case s2 =>
        intro a w' hoff hg hdep K hK
        obtain ⟨v0, e0, f0⟩ := hdep 0 _ 56 (by kernel_rfl) rfl rfl
        obtain rfl := (f0.1 rfl).symm
        obtain ⟨v1, e1, f1⟩ := hdep 1 _ 57 (by kernel_rfl) rfl rfl
        obtain rfl := (f1.2.1 rfl).symm
        have hk1 := HK1.out; have hk2 := HK2.out
        rw [if_pos (by rfl)]
        go_simp
        exact hK.out _ _ hg ⟨nn,nn, fun _ => rfl, nn,nn,nn,nn,nn,nn,nn,nn,nn⟩ (fun _ _ h => h)
       case s3 =>
        intro a w' hoff hg hdep K hK
        obtain ⟨v2, e2, f2⟩ := hdep 2 _ 58 (by kernel_rfl) rfl rfl
        obtain rfl := (f2.2.2.1 rfl).symm
        rw [if_pos (by rfl)]
        go_simp
        exact hK.out _ _ hg ⟨nn,nn,nn, fun _ => rfl, nn,nn,nn,nn,nn,nn,nn,nn⟩ (fun _ _ h => h)
       case s4 =>
        intro a w' hoff hg hdep K hK
        obtain ⟨v3, e3, f3⟩ := hdep 3 _ 59 (by kernel_rfl) rfl rfl
        obtain rfl := (f3.2.2.2.1 rfl).symm
        rw [if_pos (by rfl)]
        have q0 := ((Below.step HG9.out hg).cell (p := ⟨lb, lo + k * 7, none⟩) HLB.out).trans Q0.out; have q1 := ((Below.step HG9.out hg).cell (p := ⟨lb, lo + k * 7 + 1, none⟩) HLB.out).trans Q1.out; have q2 := ((Below.step HG9.out hg).cell (p := ⟨lb, lo + k * 7 + 2, none⟩) HLB.out).trans Q2.out; have q3 := ((Below.step HG9.out hg).cell (p := ⟨lb, lo + k * 7 + 3, none⟩) HLB.out).trans Q3.out; have q4 := ((Below.step HG9.out hg).cell (p := ⟨lb, lo + k * 7 + 4, none⟩) HLB.out).trans Q4.out; have q5 := ((Below.step HG9.out hg).cell (p := ⟨lb, lo + k * 7 + 5, none⟩) HLB.out).trans Q5.out; have q6 := ((Below.step HG9.out hg).cell (p := ⟨lb, lo + k * 7 + 6, none⟩) HLB.out).trans Q6.out; have p0 := ((Below.step HG9.out hg).cell (p := ⟨mb, mo + k * 7, none⟩) HMB.out).trans P0.out; have p1 := ((Below.step HG9.out hg).cell (p := ⟨mb, mo + k * 7 + 1, none⟩) HMB.out).trans P1.out; have p2 := ((Below.step HG9.out hg).cell (p := ⟨mb, mo + k * 7 + 2, none⟩) HMB.out).trans P2.out; have p3 := ((Below.step HG9.out hg).cell (p := ⟨mb, mo + k * 7 + 3, none⟩) HMB.out).trans P3.out; have p4 := ((Below.step HG9.out hg).cell (p := ⟨mb, mo + k * 7 + 4, none⟩) HMB.out).trans P4.out; have p5 := ((Below.step HG9.out hg).cell (p := ⟨mb, mo + k * 7 + 5, none⟩) HMB.out).trans P5.out; have p6 := ((Below.step HG9.out hg).cell (p := ⟨mb, mo + k * 7 + 6, none⟩) HMB.out).trans P6.out
        go_simp
        exact hK.out _ _ hg ⟨nn,nn,nn,nn, fun _ => rfl, nn,nn,nn,nn,nn,nn,nn⟩ (fun _ _ h => h)
       case s5 =>
        intro a w' hoff hg hdep K hK
        have h1 := off_at hoff 1 (v := .slice (some ⟨mb, mo, none⟩) m.length bc) (by kernel_rfl) rfl
        rw [if_pos (by rfl)]
        go_simp
        exact hK.out _ _ hg ⟨nn,nn,nn,nn,nn, fun _ => rfl, nn,nn,nn,nn,nn,nn⟩ (fun _ _ h => h)
       case s6 =>
        intro a w' hoff hg hdep K hK
        have h5 := off_at hoff 5 (v := .int .i64 (k : Int)) (by kernel_rfl) rfl
        rw [if_pos (by rfl)]
        go_simp
        exact hK.out _ _ hg ⟨nn,nn,nn,nn,nn,nn, fun _ => rfl, nn,nn,nn,nn,nn⟩ (fun _ _ h => h)
       case s7 =>
        intro a w' hoff hg hdep K hK
        obtain ⟨v5, e5, f5⟩ := hdep 5 _ 61 (by kernel_rfl) rfl rfl
        obtain rfl := (f5.2.2.2.2.2.1 rfl).symm
        obtain ⟨v6, e6, f6⟩ := hdep 6 _ 62 (by kernel_rfl) rfl rfl
        obtain rfl := (f6.2.2.2.2.2.2.1 rfl).symm
        have hk1 := HK1.out; have hk3 := HK3.out
        rw [if_pos (by rfl)]
        go_simp
        exact hK.out _ _ hg ⟨nn,nn,nn,nn,nn,nn,nn, fun _ => rfl, nn,nn,nn,nn⟩ (fun _ _ h => h)
       case s8 =>
        intro a w' hoff hg hdep K hK
        obtain ⟨v7, e7, f7⟩ := hdep 7 _ 63 (by kernel_rfl) rfl rfl
        obtain rfl := (f7.2.2.2.2.2.2.2.1 rfl).symm
        rw [if_pos (by rfl)]
        go_simp
        exact hK.out _ _ hg ⟨nn,nn,nn,nn,nn,nn,nn,nn, fun _ => rfl, nn,nn,nn⟩ (fun _ _ h => h)
       case s9 =>
        intro a w' hoff hg hdep K hK
        obtain ⟨v8, e8, f8⟩ := hdep 8 _ 64 (by kernel_rfl) rfl rfl
        obtain rfl := (f8.2.2.2.2.2.2.2.2.1 rfl).symm
        rw [if_pos (by rfl)]
        have q0 := ((Below.step HG9.out hg).cell (p := ⟨lb, lo + k * 7, none⟩) HLB.out).trans Q0.out; have q1 := ((Below.step HG9.out hg).cell (p := ⟨lb, lo + k * 7 + 1, none⟩) HLB.out).trans Q1.out; have q2 := ((Below.step HG9.out hg).cell (p := ⟨lb, lo + k * 7 + 2, none⟩) HLB.out).trans Q2.out; have q3 := ((Below.step HG9.out hg).cell (p := ⟨lb, lo + k * 7 + 3, none⟩) HLB.out).trans Q3.out; have q4 := ((Below.step HG9.out hg).cell (p := ⟨lb, lo + k * 7 + 4, none⟩) HLB.out).trans Q4.out; have q5 := ((Below.step HG9.out hg).cell (p := ⟨lb, lo + k * 7 + 5, none⟩) HLB.out).trans Q5.out; have q6 := ((Below.step HG9.out hg).cell (p := ⟨lb, lo + k * 7 + 6, none⟩) HLB.out).trans Q6.out; have p0 := ((Below.step HG9.out hg).cell (p := ⟨mb, mo + k * 7, none⟩) HMB.out).trans P0.out; have p1 := ((Below.step HG9.out hg).cell (p := ⟨mb, mo + k * 7 + 1, none⟩) HMB.out).trans P1.out; have p2 := ((Below.step HG9.out hg).cell (p := ⟨mb, mo + k * 7 + 2, none⟩) HMB.out).trans P2.out; have p3 := ((Below.step HG9.out hg).cell (p := ⟨mb, mo + k * 7 + 3, none⟩) HMB.out).trans P3.out; have p4 := ((Below.step HG9.out hg).cell (p := ⟨mb, mo + k * 7 + 4, none⟩) HMB.out).trans P4.out; have p5 := ((Below.step HG9.out hg).cell (p := ⟨mb, mo + k * 7 + 5, none⟩) HMB.out).trans P5.out; have p6 := ((Below.step HG9.out hg).cell (p := ⟨mb, mo + k * 7 + 6, none⟩) HMB.out).trans P6.out
        go_simp
        exact hK.out _ _ hg ⟨nn,nn,nn,nn,nn,nn,nn,nn,nn, fun _ => rfl, nn,nn⟩ (fun _ _ h => h)
       case s10 =>
        intro a w' hoff hg hdep K hK
        obtain ⟨v4, e4, f4⟩ := hdep 4 _ 60 (by kernel_rfl) rfl rfl
        obtain rfl := (f4.2.2.2.2.1 rfl).symm
        obtain ⟨v9, e9, f9⟩ := hdep 9 _ 65 (by kernel_rfl) rfl rfl
        obtain rfl := (f9.2.2.2.2.2.2.2.2.2.1 rfl).symm
        rw [if_pos (by rfl)]
        go_simp
        refine (HIH.out x (HXM.out) y.args S w' _ _ (fun j hj => Nat.lt_of_lt_of_le (HSR.out j hj) (Below.step HG9.out hg).size) (RepMs.on (fun _ h => h) (fun j hj => (Below.step HG9.out hg).block j (HSR.out j hj)) GX.out.lst) (RepMs.on (fun _ h => h) (fun j hj => (Below.step HG9.out hg).block j (HSR.out j hj)) GY.out.lst)).mono ?_
        rw [HV2.out]
        rintro e w2' ⟨rfl, hb⟩
        exact hK.out _ _ (Below.step hg hb) ⟨nn,nn,nn,nn,nn,nn,nn,nn,nn,nn, fun _ => rfl, nn⟩ (fun _ _ h => ⟨h.1, h.2.1, h.2.2.1, h.2.2.2.1, h.2.2.2.2.1, h.2.2.2.2.2.1, h.2.2.2.2.2.2.1, h.2.2.2.2.2.2.2.1, h.2.2.2.2.2.2.2.2.1, h.2.2.2.2.2.2.2.2.2.1, h.2.2.2.2.2.2.2.2.2.2.1, h.2.2.2.2.2.2.2.2.2.2.2⟩)
       case s11 =>
        intro a w' hoff hg hdep K hK
        obtain ⟨v10, e10, f10⟩ := hdep 10 _ 66 (by kernel_rfl) rfl rfl
        obtain rfl := (f10.2.2.2.2.2.2.2.2.2.2.1 rfl).symm
        rw [if_pos (by rfl)]
        go_simp
        exact hK.out _ _ hg ⟨nn,nn,nn,nn,nn,nn,nn,nn,nn,nn,nn, fun _ => rfl⟩ (fun _ _ h => h)
       case fin =>
        intro a w10 hoff hg hf
        obtain ⟨v0, e0, f0⟩ := hf 0 _ 56 rfl rfl
        obtain rfl := (f0.1 rfl).symm
        obtain ⟨v1, e1, f1⟩ := hf 1 _ 57 rfl rfl
        obtain rfl := (f1.2.1 rfl).symm
        obtain ⟨v2, e2, f2⟩ := hf 2 _ 58 rfl rfl
        obtain rfl := (f2.2.2.1 rfl).symm
        obtain ⟨v3, e3, f3⟩ := hf 3 _ 59 rfl rfl
        obtain rfl := (f3.2.2.2.1 rfl).symm
        obtain ⟨v4, e4, f4⟩ := hf 4 _ 60 rfl rfl
        obtain rfl := (f4.2.2.2.2.1 rfl).symm
        obtain ⟨v5, e5, f5⟩ := hf 5 _ 61 rfl rfl
        obtain rfl := (f5.2.2.2.2.2.1 rfl).symm
        obtain ⟨v6, e6, f6⟩ := hf 6 _ 62 rfl rfl
        obtain rfl := (f6.2.2.2.2.2.2.1 rfl).symm
        obtain ⟨v7, e7, f7⟩ := hf 7 _ 63 rfl rfl
        obtain rfl := (f7.2.2.2.2.2.2.2.1 rfl).symm
        obtain ⟨v8, e8, f8⟩ := hf 8 _ 64 rfl rfl
        obtain rfl := (f8.2.2.2.2.2.2.2.2.1 rfl).symm
        obtain ⟨v9, e9, f9⟩ := hf 9 _ 65 rfl rfl
        obtain rfl := (f9.2.2.2.2.2.2.2.2.2.1 rfl).symm
        obtain ⟨v10, e10, f10⟩ := hf 10 _ 66 rfl rfl
        obtain rfl := (f10.2.2.2.2.2.2.2.2.2.2.1 rfl).symm
        obtain ⟨v11, e11, f11⟩ := hf 11 _ 7 rfl rfl
        obtain rfl := (f11.2.2.2.2.2.2.2.2.2.2.2 rfl).symm
        rw [hoff.sets [(56, .slice (some ⟨lb, lo, none⟩) l.length ac), (57, .int .i64 (k : Int)), (58, .pointer (some ⟨lb, lo + k * 7, none⟩)), (59, .pointer (some ⟨lb, lo + k * 7 + 6, none⟩)), (60, .slice xa x.args.length xd), (61, .slice (some ⟨mb, mo, none⟩) m.length bc), (62, .int .i64 (k : Int)), (63, .pointer (some ⟨mb, mo + k * 7, none⟩)), (64, .pointer (some ⟨mb, mo + k * 7 + 6, none⟩)), (65, .slice ya y.args.length yd), (66, .bool v2), (7, .bool v2)] (by kernel_rfl) (by intro p hp; simp only [List.mem_cons, List.not_mem_nil, or_false] at hp; rcases hp with rfl | rfl | rfl | rfl | rfl | rfl | rfl | rfl | rfl | rfl | rfl | rfl <;> assumption)]
        clear hoff hf e0 f0 e1 f1 e2 f2 e3 f3 e4 f4 e5 f5 e6 f6 e7 f7 e8 f8 e9 f9 e10 f10 e11 f11
        simp only [List.foldl_cons, List.foldl_nil, List.setIfInBounds_toArray, List.set_cons_zero, List.set_cons_succ]
        have HB10 := Lib.hid (Below.step HBEL.out (Below.step HG9.out hg))
        clear hg
        cases v1 with
        | false =>
         have HF1 : Hid (¬ l = m) := by
          show ¬ _
          intro e
          have h1 := ((HREC.out.1 e) : _)
          exact not_eqB (sameV_eqB x.val y.val ▸ HV1.out) (HEX.out.1 (HDR.out.1 h1).1).2.2.1
         go_wp2_with fail
         go_ret
         exact ⟨retB (by rw [eqB_false HF1.out]), HB10.out⟩
        | true =>
         cases v2 with
         | false =>
          have HF1 : Hid (¬ l = m) := by
           show ¬ _
           intro e
           exact not_eqB HV2.out (HEX.out.1 (HDR.out.1 (HREC.out.1 e)).1).2.2.2
          go_wp2_with fail
          go_ret
          exact ⟨retB (by rw [eqB_false HF1.out]), HB10.out⟩
         | true =>
          have HNX : Hid (l = m ↔ l.drop (k + 1) = m.drop (k + 1)) := by
           show _ ↔ _
           rw [HREC.out, HDR.out]
           exact ⟨fun h => h.2, fun h => ⟨HEX.out.2 ⟨HKE.out, HNE.out, of_eqB (sameV_eqB x.val y.val ▸ HV1.out), of_eqB HV2.out⟩, h⟩⟩
          go_wp2_with fail
          go_roundw
          case rel => exact ⟨k + 1, by omega, by go_num, HNX.out, HB10.out⟩
          case measure => simp [intOf]; omega
     ·have HKK : Hid ((x.kind == y.kind) = true) := Lib.hid (by simp [hke])
      have HNN : Hid ((x.name.toList == y.name.toList) = false) := Lib.hid (by
       cases e : (x.name.toList == y.name.toList) with
       | false => rfl
       | true => exact absurd (toList_inj (by simpa using e)) hne)
      have HF1 : Hid (¬ l = m) := by
       show ¬ _
       intro e
       exact hne (HEX.out.1 (HDR.out.1 (HREC.out.1 e)).1).2.1
      clear hke hne
      go_wp2_with fail
      refine wp_region_factsG (by rfl) 73 (by rfl) (by kernel_rfl) (fun wz iz vz => (iz = 0 → vz = .slice (some ⟨lb, lo, none⟩) l.length ac) ∧ (iz = 1 → vz = .int .i64 (k : Int)) ∧ (iz = 2 → vz = .pointer (some ⟨lb, lo + k * 7, none⟩)) ∧ (iz = 3 → vz = .pointer (some ⟨lb, lo + k * 7, none⟩)) ∧ (iz = 4 → vz = .int .i64 x.kind) ∧ (iz = 5 → vz = .slice (some ⟨mb, mo, none⟩) m.length bc) ∧ (iz = 6 → vz = .int .i64 (k : Int)) ∧ (iz = 7 → vz = .pointer (some ⟨mb, mo + k * 7, none⟩)) ∧ (iz = 8 → vz = .pointer (some ⟨mb, mo + k * 7, none⟩)) ∧ (iz = 9 → vz = .int .i64 y.kind) ∧ (iz = 10 → vz = .bool true) ∧ (iz = 11 → vz = .bool true) ∧ (iz = 12 → vz = .slice (some ⟨lb, lo, none⟩) l.length ac) ∧ (iz = 13 → vz = .int .i64 (k : Int)) ∧ (iz = 14 → vz = .pointer (some ⟨lb, lo + k * 7, none⟩)) ∧ (iz = 15 → vz = .pointer (some ⟨lb, lo + k * 7 + 1, none⟩)) ∧ (iz = 16 → vz = .string x.name) ∧ (iz = 17 → vz = .slice (some ⟨mb, mo, none⟩) m.length bc) ∧ (iz = 18 → vz = .int .i64 (k : Int)) ∧ (iz = 19 → vz = .pointer (some ⟨mb, mo + k * 7, none⟩)) ∧ (iz = 20 → vz = .pointer (some ⟨mb, mo + k * 7 + 1, none⟩)) ∧ (iz = 21 → vz = .string y.name) ∧ (iz = 22 → vz = .bool false) ∧ (iz = 23 → vz = .bool false) ∧ (iz = 24 → vz = .bool false) ∧ (iz = 36 → vz = .bool false) ∧ (iz = 37 → vz = .bool false)) (fun w' => Below wr.heap.size wr w') (Below.drew (Below.refl _ _)) ⟨?s0, ?s1, ?s2, ?s3, ?s4, ?s5, ?s6, ?s7, ?s8, ?s9, ?s10, ?s11, ?s12, ?s13, ?s14, ?s15, ?s16, ?s17, ?s18, ?s19, ?s20, ?s21, ?s22, ?s23, ?s24, ?s25, ?s26, ?s27, ?s28, ?s29, ?s30, ?s31, ?s32, ?s33, ?s34, ?s35, ?s36, ?s37, trivial⟩ ?fin
      case s0 =>
       intro a w' hoff hg hdep K hK
       have h0 := off_at hoff 0 (v := .slice (some ⟨lb, lo, none⟩) l.length ac) (by kernel_rfl) rfl
       rw [if_pos (by rfl)]
       go_simp
       exact hK.out _ _ hg ⟨fun _ => rfl, nn,nn,nn,nn,nn,nn,nn,nn,nn,nn,nn,nn,nn,nn,nn,nn,nn,nn,nn,nn,nn,nn,nn,nn,nn,nn⟩ (fun _ _ h => h)
      case s1 =>
       intro a w' hoff hg hdep K hK
       have h5 := off_at hoff 5 (v := .int .i64 (k : Int)) (by kernel_rfl) rfl
       rw [if_pos (by rfl)]
       go_simp
       exact hK.out _ _ hg ⟨nn, fun _ => rfl, nn,nn,nn,nn,nn,nn,nn,nn,nn,nn,nn,nn,nn,nn,nn,nn,nn,nn,nn,nn,nn,nn,nn,nn,nn⟩ (fun _ _ h => h)
      case s2 =>
       intro a w' hoff hg hdep K hK
       obtain ⟨v0, e0, f0⟩ := hdep 0 _ 19 (by kernel_rfl) rfl rfl
       obtain rfl := (f0.1 rfl).symm
       obtain ⟨v1, e1, f1⟩ := hdep 1 _ 20 (by kernel_rfl) rfl rfl
       obtain rfl := (f1.2.1 rfl).symm
       have hk1 := HK1.out; have hk2 := HK2.out
       rw [if_pos (by rfl)]
       go_simp
       exact hK.out _ _ hg ⟨nn,nn, fun _ => rfl, nn,nn,nn,nn,nn,nn,nn,nn,nn,nn,nn,nn,nn,nn,nn,nn,nn,nn,nn,nn,nn,nn,nn,nn⟩ (fun _ _ h => h)
      case s3 =>
       intro a w' hoff hg hdep K hK
       obtain ⟨v2, e2, f2⟩ := hdep 2 _ 21 (by kernel_rfl) rfl rfl
       obtain rfl := (f2.2.2.1 rfl).symm
       rw [if_pos (by rfl)]
       go_simp
       exact hK.out _ _ hg ⟨nn,nn,nn, fun _ => rfl, nn,nn,nn,nn,nn,nn,nn,nn,nn,nn,nn,nn,nn,nn,nn,nn,nn,nn,nn,nn,nn,nn,nn⟩ (fun _ _ h => h)
      case s4 =>
       intro a w' hoff hg hdep K hK
       obtain ⟨v3, e3, f3⟩ := hdep 3 _ 22 (by kernel_rfl) rfl rfl
       obtain rfl := (f3.2.2.2.1 rfl).symm
       rw [if_pos (by rfl)]
       have q0 := (hg.cell (p := ⟨lb, lo + k * 7, none⟩) HLB.out).trans Q0.out; have q1 := (hg.cell (p := ⟨lb, lo + k * 7 + 1, none⟩) HLB.out).trans Q1.out; have q2 := (hg.cell (p := ⟨lb, lo + k * 7 + 2, none⟩) HLB.out).trans Q2.out; have q3 := (hg.cell (p := ⟨lb, lo + k * 7 + 3, none⟩) HLB.out).trans Q3.out; have q4 := (hg.cell (p := ⟨lb, lo + k * 7 + 4, none⟩) HLB.out).trans Q4.out; have q5 := (hg.cell (p := ⟨lb, lo + k * 7 + 5, none⟩) HLB.out).trans Q5.out; have q6 := (hg.cell (p := ⟨lb, lo + k * 7 + 6, none⟩) HLB.out).trans Q6.out; have p0 := (hg.cell (p := ⟨mb, mo + k * 7, none⟩) HMB.out).trans P0.out; have p1 := (hg.cell (p := ⟨mb, mo + k * 7 + 1, none⟩) HMB.out).trans P1.out; have p2 := (hg.cell (p := ⟨mb, mo + k * 7 + 2, none⟩) HMB.out).trans P2.out; have p3 := (hg.cell (p := ⟨mb, mo + k * 7 + 3, none⟩) HMB.out).trans P3.out; have p4 := (hg.cell (p := ⟨mb, mo + k * 7 + 4, none⟩) HMB.out).trans P4.out; have p5 := (hg.cell (p := ⟨mb, mo + k * 7 + 5, none⟩) HMB.out).trans P5.out; have p6 := (hg.cell (p := ⟨mb, mo + k * 7 + 6, none⟩) HMB.out).trans P6.out
       go_simp
       exact hK.out _ _ hg ⟨nn,nn,nn,nn, fun _ => rfl, nn,nn,nn,nn,nn,nn,nn,nn,nn,nn,nn,nn,nn,nn,nn,nn,nn,nn,nn,nn,nn,nn⟩ (fun _ _ h => h)
      case s5 =>
       intro a w' hoff hg hdep K hK
       have h1 := off_at hoff 1 (v := .slice (some ⟨mb, mo, none⟩) m.length bc) (by kernel_rfl) rfl
       rw [if_pos (by rfl)]
       go_simp
       exact hK.out _ _ hg ⟨nn,nn,nn,nn,nn, fun _ => rfl, nn,nn,nn,nn,nn,nn,nn,nn,nn,nn,nn,nn,nn,nn,nn,nn,nn,nn,nn,nn,nn⟩ (fun _ _ h => h)
      case s6 =>
       intro a w' hoff hg hdep K hK
       have h5 := off_at hoff 5 (v := .int .i64 (k : Int)) (by kernel_rfl) rfl
       rw [if_pos (by rfl)]
       go_simp
       exact hK.out _ _ hg ⟨nn,nn,nn,nn,nn,nn, fun _ => rfl, nn,nn,nn,nn,nn,nn,nn,nn,nn,nn,nn,nn,nn,nn,nn,nn,nn,nn,nn,nn⟩ (fun _ _ h => h)
      case s7 =>
       intro a w' hoff hg hdep K hK
       obtain ⟨v5, e5, f5⟩ := hdep 5 _ 24 (by kernel_rfl) rfl rfl
       obtain rfl := (f5.2.2.2.2.2.1 rfl).symm
       obtain ⟨v6, e6, f6⟩ := hdep 6 _ 25 (by kernel_rfl) rfl rfl
       obtain rfl := (f6.2.2.2.2.2.2.1 rfl).symm
       have hk1 := HK1.out; have hk3 := HK3.out
       rw [if_pos (by rfl)]
       go_simp
       exact hK.out _ _ hg ⟨nn,nn,nn,nn,nn,nn,nn, fun _ => rfl, nn,nn,nn,nn,nn,nn,nn,nn,nn,nn,nn,nn,nn,nn,nn,nn,nn,nn,nn⟩ (fun _ _ h => h)
      case s8 =>
       intro a w' hoff hg hdep K hK
       obtain ⟨v7, e7, f7⟩ := hdep 7 _ 26 (by kernel_rfl) rfl rfl
       obtain rfl := (f7.2.2.2.2.2.2.2.1 rfl).symm
       rw [if_pos (by rfl)]
       go_simp
       exact hK.out _ _ hg ⟨nn,nn,nn,nn,nn,nn,nn,nn, fun _ => rfl, nn,nn,nn,nn,nn,nn,nn,nn,nn,nn,nn,nn,nn,nn,nn,nn,nn,nn⟩ (fun _ _ h => h)
      case s9 =>
       intro a w' hoff hg hdep K hK
       obtain ⟨v8, e8, f8⟩ := hdep 8 _ 27 (by kernel_rfl) rfl rfl
       obtain rfl := (f8.2.2.2.2.2.2.2.2.1 rfl).symm
       rw [if_pos (by rfl)]
       have q0 := (hg.cell (p := ⟨lb, lo + k * 7, none⟩) HLB.out).trans Q0.out; have q1 := (hg.cell (p := ⟨lb, lo + k * 7 + 1, none⟩) HLB.out).trans Q1.out; have q2 := (hg.cell (p := ⟨lb, lo + k * 7 + 2, none⟩) HLB.out).trans Q2.out; have q3 := (hg.cell (p := ⟨lb, lo + k * 7 + 3, none⟩) HLB.out).trans Q3.out; have q4 := (hg.cell (p := ⟨lb, lo + k * 7 + 4, none⟩) HLB.out).trans Q4.out; have q5 := (hg.cell (p := ⟨lb, lo + k * 7 + 5, none⟩) HLB.out).trans Q5.out; have q6 := (hg.cell (p := ⟨lb, lo + k * 7 + 6, none⟩) HLB.out).trans Q6.out; have p0 := (hg.cell (p := ⟨mb, mo + k * 7, none⟩) HMB.out).trans P0.out; have p1 := (hg.cell (p := ⟨mb, mo + k * 7 + 1, none⟩) HMB.out).trans P1.out; have p2 := (hg.cell (p := ⟨mb, mo + k * 7 + 2, none⟩) HMB.out).trans P2.out; have p3 := (hg.cell (p := ⟨mb, mo + k * 7 + 3, none⟩) HMB.out).trans P3.out; have p4 := (hg.cell (p := ⟨mb, mo + k * 7 + 4, none⟩) HMB.out).trans P4.out; have p5 := (hg.cell (p := ⟨mb, mo + k * 7 + 5, none⟩) HMB.out).trans P5.out; have p6 := (hg.cell (p := ⟨mb, mo + k * 7 + 6, none⟩) HMB.out).trans P6.out
       go_simp
       exact hK.out _ _ hg ⟨nn,nn,nn,nn,nn,nn,nn,nn,nn, fun _ => rfl, nn,nn,nn,nn,nn,nn,nn,nn,nn,nn,nn,nn,nn,nn,nn,nn,nn⟩ (fun _ _ h => h)
      case s10 =>
       intro a w' hoff hg hdep K hK
       obtain ⟨v4, e4, f4⟩ := hdep 4 _ 23 (by kernel_rfl) rfl rfl
       obtain rfl := (f4.2.2.2.2.1 rfl).symm
       obtain ⟨v9, e9, f9⟩ := hdep 9 _ 28 (by kernel_rfl) rfl rfl
       obtain rfl := (f9.2.2.2.2.2.2.2.2.2.1 rfl).symm
       rw [if_pos (by rfl)]
       have hkk := HKK.out
       go_simp
       exact hK.out _ _ hg ⟨nn,nn,nn,nn,nn,nn,nn,nn,nn,nn, fun _ => rfl, nn,nn,nn,nn,nn,nn,nn,nn,nn,nn,nn,nn,nn,nn,nn,nn⟩ (fun _ _ h => h)
      case s11 =>
       intro a w' hoff hg hdep K hK
       obtain ⟨v10, e10, f10⟩ := hdep 10 _ 29 (by kernel_rfl) rfl rfl
       obtain rfl := (f10.2.2.2.2.2.2.2.2.2.2.1 rfl).symm
       rw [if_pos (by rfl)]
       go_simp
       exact hK.out _ _ hg ⟨nn,nn,nn,nn,nn,nn,nn,nn,nn,nn,nn, fun _ => rfl, nn,nn,nn,nn,nn,nn,nn,nn,nn,nn,nn,nn,nn,nn,nn⟩ (fun _ _ h => h)
      case s12 =>
       intro a w' hoff hg hdep K hK
       have h0 := off_at hoff 0 (v := .slice (some ⟨lb, lo, none⟩) l.length ac) (by kernel_rfl) rfl
       obtain ⟨v11, e11, f11⟩ := hdep 11 _ 30 (by kernel_rfl) rfl rfl
       obtain rfl := (f11.2.2.2.2.2.2.2.2.2.2.2.1 rfl).symm
       rw [if_pos (by simp [Region.wanted, yielded, e11])]
       go_simp
       exact hK.out _ _ hg ⟨nn,nn,nn,nn,nn,nn,nn,nn,nn,nn,nn,nn, fun _ => rfl, nn,nn,nn,nn,nn,nn,nn,nn,nn,nn,nn,nn,nn,nn⟩ (fun _ _ h => h)
      case s13 =>
       intro a w' hoff hg hdep K hK
       have h5 := off_at hoff 5 (v := .int .i64 (k : Int)) (by kernel_rfl) rfl
       obtain ⟨v11, e11, f11⟩ := hdep 11 _ 30 (by kernel_rfl) rfl rfl
       obtain rfl := (f11.2.2.2.2.2.2.2.2.2.2.2.1 rfl).symm
       rw [if_pos (by simp [Region.wanted, yielded, e11])]
       go_simp
       exact hK.out _ _ hg ⟨nn,nn,nn,nn,nn,nn,nn,nn,nn,nn,nn,nn,nn, fun _ => rfl, nn,nn,nn,nn,nn,nn,nn,nn,nn,nn,nn,nn,nn⟩ (fun _ _ h => h)
      case s14 =>
       intro a w' hoff hg hdep K hK
       obtain ⟨v12, e12, f12⟩ := hdep 12 _ 31 (by kernel_rfl) rfl rfl
       obtain rfl := (f12.2.2.2.2.2.2.2.2.2.2.2.2.1 rfl).symm
       obtain ⟨v13, e13, f13⟩ := hdep 13 _ 32 (by kernel_rfl) rfl rfl
       obtain rfl := (f13.2.2.2.2.2.2.2.2.2.2.2.2.2.1 rfl).symm
       obtain ⟨v11, e11, f11⟩ := hdep 11 _ 30 (by kernel_rfl) rfl rfl
       obtain rfl := (f11.2.2.2.2.2.2.2.2.2.2.2.1 rfl).symm
       have hk1 := HK1.out; have hk2 := HK2.out
       rw [if_pos (by simp [Region.wanted, yielded, e11])]
       go_simp
       exact hK.out _ _ hg ⟨nn,nn,nn,nn,nn,nn,nn,nn,nn,nn,nn,nn,nn,nn, fun _ => rfl, nn,nn,nn,nn,nn,nn,nn,nn,nn,nn,nn,nn⟩ (fun _ _ h => h)
      case s15 =>
       intro a w' hoff hg hdep K hK
       obtain ⟨v14, e14, f14⟩ := hdep 14 _ 33 (by kernel_rfl) rfl rfl
       obtain rfl := (f14.2.2.2.2.2.2.2.2.2.2.2.2.2.2.1 rfl).symm
       obtain ⟨v11, e11, f11⟩ := hdep 11 _ 30 (by kernel_rfl) rfl rfl
       obtain rfl := (f11.2.2.2.2.2.2.2.2.2.2.2.1 rfl).symm
       rw [if_pos (by simp [Region.wanted, yielded, e11])]
       go_simp
       exact hK.out _ _ hg ⟨nn,nn,nn,nn,nn,nn,nn,nn,nn,nn,nn,nn,nn,nn,nn, fun _ => rfl, nn,nn,nn,nn,nn,nn,nn,nn,nn,nn,nn⟩ (fun _ _ h => h)
      case s16 =>
       intro a w' hoff hg hdep K hK
       obtain ⟨v15, e15, f15⟩ := hdep 15 _ 34 (by kernel_rfl) rfl rfl
       obtain rfl := (f15.2.2.2.2.2.2.2.2.2.2.2.2.2.2.2.1 rfl).symm
       obtain ⟨v11, e11, f11⟩ := hdep 11 _ 30 (by kernel_rfl) rfl rfl
       obtain rfl := (f11.2.2.2.2.2.2.2.2.2.2.2.1 rfl).symm
       rw [if_pos (by simp [Region.wanted, yielded, e11])]
       have q0 := (hg.cell (p := ⟨lb, lo + k * 7, none⟩) HLB.out).trans Q0.out; have q1 := (hg.cell (p := ⟨lb, lo + k * 7 + 1, none⟩) HLB.out).trans Q1.out; have q2 := (hg.cell (p := ⟨lb, lo + k * 7 + 2, none⟩) HLB.out).trans Q2.out; have q3 := (hg.cell (p := ⟨lb, lo + k * 7 + 3, none⟩) HLB.out).trans Q3.out; have q4 := (hg.cell (p := ⟨lb, lo + k * 7 + 4, none⟩) HLB.out).trans Q4.out; have q5 := (hg.cell (p := ⟨lb, lo + k * 7 + 5, none⟩) HLB.out).trans Q5.out; have q6 := (hg.cell (p := ⟨lb, lo + k * 7 + 6, none⟩) HLB.out).trans Q6.out; have p0 := (hg.cell (p := ⟨mb, mo + k * 7, none⟩) HMB.out).trans P0.out; have p1 := (hg.cell (p := ⟨mb, mo + k * 7 + 1, none⟩) HMB.out).trans P1.out; have p2 := (hg.cell (p := ⟨mb, mo + k * 7 + 2, none⟩) HMB.out).trans P2.out; have p3 := (hg.cell (p := ⟨mb, mo + k * 7 + 3, none⟩) HMB.out).trans P3.out; have p4 := (hg.cell (p := ⟨mb, mo + k * 7 + 4, none⟩) HMB.out).trans P4.out; have p5 := (hg.cell (p := ⟨mb, mo + k * 7 + 5, none⟩) HMB.out).trans P5.out; have p6 := (hg.cell (p := ⟨mb, mo + k * 7 + 6, none⟩) HMB.out).trans P6.out
       go_simp
       exact hK.out _ _ hg ⟨nn,nn,nn,nn,nn,nn,nn,nn,nn,nn,nn,nn,nn,nn,nn,nn, fun _ => rfl, nn,nn,nn,nn,nn,nn,nn,nn,nn,nn⟩ (fun _ _ h => h)
      case s17 =>
       intro a w' hoff hg hdep K hK
       have h1 := off_at hoff 1 (v := .slice (some ⟨mb, mo, none⟩) m.length bc) (by kernel_rfl) rfl
       obtain ⟨v11, e11, f11⟩ := hdep 11 _ 30 (by kernel_rfl) rfl rfl
       obtain rfl := (f11.2.2.2.2.2.2.2.2.2.2.2.1 rfl).symm
       rw [if_pos (by simp [Region.wanted, yielded, e11])]
       go_simp
       exact hK.out _ _ hg ⟨nn,nn,nn,nn,nn,nn,nn,nn,nn,nn,nn,nn,nn,nn,nn,nn,nn, fun _ => rfl, nn,nn,nn,nn,nn,nn,nn,nn,nn⟩ (fun _ _ h => h)
      case s18 =>
       intro a w' hoff hg hdep K hK
       have h5 := off_at hoff 5 (v := .int .i64 (k : Int)) (by kernel_rfl) rfl
       obtain ⟨v11, e11, f11⟩ := hdep 11 _ 30 (by kernel_rfl) rfl rfl
       obtain rfl := (f11.2.2.2.2.2.2.2.2.2.2.2.1 rfl).symm
       rw [if_pos (by simp [Region.wanted, yielded, e11])]
       go_simp
       exact hK.out _ _ hg ⟨nn,nn,nn,nn,nn,nn,nn,nn,nn,nn,nn,nn,nn,nn,nn,nn,nn,nn, fun _ => rfl, nn,nn,nn,nn,nn,nn,nn,nn⟩ (fun _ _ h => h)
      case s19 =>
       intro a w' hoff hg hdep K hK
       obtain ⟨v17, e17, f17⟩ := hdep 17 _ 36 (by kernel_rfl) rfl rfl
       obtain rfl := (f17.2.2.2.2.2.2.2.2.2.2.2.2.2.2.2.2.2.1 rfl).symm
       obtain ⟨v18, e18, f18⟩ := hdep 18 _ 37 (by kernel_rfl) rfl rfl
       obtain rfl := (f18.2.2.2.2.2.2.2.2.2.2.2.2.2.2.2.2.2.2.1 rfl).symm
       obtain ⟨v11, e11, f11⟩ := hdep 11 _ 30 (by kernel_rfl) rfl rfl
       obtain rfl := (f11.2.2.2.2.2.2.2.2.2.2.2.1 rfl).symm
       have hk1 := HK1.out; have hk3 := HK3.out
       rw [if_pos (by simp [Region.wanted, yielded, e11])]
       go_simp
       exact hK.out _ _ hg ⟨nn,nn,nn,nn,nn,nn,nn,nn,nn,nn,nn,nn,nn,nn,nn,nn,nn,nn,nn, fun _ => rfl, nn,nn,nn,nn,nn,nn,nn⟩ (fun _ _ h => h)
      case s20 =>
       intro a w' hoff hg hdep K hK
       obtain ⟨v19, e19, f19⟩ := hdep 19 _ 38 (by kernel_rfl) rfl rfl
       obtain rfl := (f19.2.2.2.2.2.2.2.2.2.2.2.2.2.2.2.2.2.2.2.1 rfl).symm
       obtain ⟨v11, e11, f11⟩ := hdep 11 _ 30 (by kernel_rfl) rfl rfl
       obtain rfl := (f11.2.2.2.2.2.2.2.2.2.2.2.1 rfl).symm
       rw [if_pos (by simp [Region.wanted, yielded, e11])]
       go_simp
       exact hK.out _ _ hg ⟨nn,nn,nn,nn,nn,nn,nn,nn,nn,nn,nn,nn,nn,nn,nn,nn,nn,nn,nn,nn, fun _ => rfl, nn,nn,nn,nn,nn,nn⟩ (fun _ _ h => h)
      case s21 =>
       intro a w' hoff hg hdep K hK
       obtain ⟨v20, e20, f20⟩ := hdep 20 _ 39 (by kernel_rfl) rfl rfl
       obtain rfl := (f20.2.2.2.2.2.2.2.2.2.2.2.2.2.2.2.2.2.2.2.2.1 rfl).symm
       obtain ⟨v11, e11, f11⟩ := hdep 11 _ 30 (by kernel_rfl) rfl rfl
       obtain rfl := (f11.2.2.2.2.2.2.2.2.2.2.2.1 rfl).symm
       rw [if_pos (by simp [Region.wanted, yielded, e11])]
       have q0 := (hg.cell (p := ⟨lb, lo + k * 7, none⟩) HLB.out).trans Q0.out; have q1 := (hg.cell (p := ⟨lb, lo + k * 7 + 1, none⟩) HLB.out).trans Q1.out; have q2 := (hg.cell (p := ⟨lb, lo + k * 7 + 2, none⟩) HLB.out).trans Q2.out; have q3 := (hg.cell (p := ⟨lb, lo + k * 7 + 3, none⟩) HLB.out).trans Q3.out; have q4 := (hg.cell (p := ⟨lb, lo + k * 7 + 4, none⟩) HLB.out).trans Q4.out; have q5 := (hg.cell (p := ⟨lb, lo + k * 7 + 5, none⟩) HLB.out).trans Q5.out; have q6 := (hg.cell (p := ⟨lb, lo + k * 7 + 6, none⟩) HLB.out).trans Q6.out; have p0 := (hg.cell (p := ⟨mb, mo + k * 7, none⟩) HMB.out).trans P0.out; have p1 := (hg.cell (p := ⟨mb, mo + k * 7 + 1, none⟩) HMB.out).trans P1.out; have p2 := (hg.cell (p := ⟨mb, mo + k * 7 + 2, none⟩) HMB.out).trans P2.out; have p3 := (hg.cell (p := ⟨mb, mo + k * 7 + 3, none⟩) HMB.out).trans P3.out; have p4 := (hg.cell (p := ⟨mb, mo + k * 7 + 4, none⟩) HMB.out).trans P4.out; have p5 := (hg.cell (p := ⟨mb, mo + k * 7 + 5, none⟩) HMB.out).trans P5.out; have p6 := (hg.cell (p := ⟨mb, mo + k * 7 + 6, none⟩) HMB.out).trans P6.out
       go_simp
       exact hK.out _ _ hg ⟨nn,nn,nn,nn,nn,nn,nn,nn,nn,nn,nn,nn,nn,nn,nn,nn,nn,nn,nn,nn,nn, fun _ => rfl, nn,nn,nn,nn,nn⟩ (fun _ _ h => h)
      case s22 =>
       intro a w' hoff hg hdep K hK
       obtain ⟨v16, e16, f16⟩ := hdep 16 _ 35 (by kernel_rfl) rfl rfl
       obtain rfl := (f16.2.2.2.2.2.2.2.2.2.2.2.2.2.2.2.2.1 rfl).symm
       obtain ⟨v21, e21, f21⟩ := hdep 21 _ 40 (by kernel_rfl) rfl rfl
       obtain rfl := (f21.2.2.2.2.2.2.2.2.2.2.2.2.2.2.2.2.2.2.2.2.2.1 rfl).symm
       obtain ⟨v11, e11, f11⟩ := hdep 11 _ 30 (by kernel_rfl) rfl rfl
       obtain rfl := (f11.2.2.2.2.2.2.2.2.2.2.2.1 rfl).symm
       rw [if_pos (by simp [Region.wanted, yielded, e11])]
       have hnn := HNN.out
       go_simp
       exact hK.out _ _ hg ⟨nn,nn,nn,nn,nn,nn,nn,nn,nn,nn,nn,nn,nn,nn,nn,nn,nn,nn,nn,nn,nn,nn, fun _ => rfl, nn,nn,nn,nn⟩ (fun _ _ h => h)
      case s23 =>
       intro a w' hoff hg hdep K hK
       obtain ⟨v11, e11, f11⟩ := hdep 11 _ 30 (by kernel_rfl) rfl rfl
       obtain rfl := (f11.2.2.2.2.2.2.2.2.2.2.2.1 rfl).symm
       obtain ⟨v22, e22, f22⟩ := hdep 22 _ 41 (by kernel_rfl) rfl rfl
       obtain rfl := (f22.2.2.2.2.2.2.2.2.2.2.2.2.2.2.2.2.2.2.2.2.2.2.1 rfl).symm
       rw [if_pos (by rfl)]
       go_simp
       exact hK.out _ _ hg ⟨nn,nn,nn,nn,nn,nn,nn,nn,nn,nn,nn,nn,nn,nn,nn,nn,nn,nn,nn,nn,nn,nn,nn, fun _ => rfl, nn,nn,nn⟩ (fun _ _ h => h)
      case s24 =>
       intro a w' hoff hg hdep K hK
       obtain ⟨v23, e23, f23⟩ := hdep 23 _ 42 (by kernel_rfl) rfl rfl
       obtain rfl := (f23.2.2.2.2.2.2.2.2.2.2.2.2.2.2.2.2.2.2.2.2.2.2.2.1 rfl).symm
       rw [if_pos (by rfl)]
       go_simp
       exact hK.out _ _ hg ⟨nn,nn,nn,nn,nn,nn,nn,nn,nn,nn,nn,nn,nn,nn,nn,nn,nn,nn,nn,nn,nn,nn,nn,nn, fun _ => rfl, nn,nn⟩ (fun _ _ h => h)
      case s25 =>
       intro a w' hoff hg hdep K hK
       obtain ⟨v24, e24, f24⟩ := hdep 24 _ 43 (by kernel_rfl) rfl rfl
       obtain rfl := (f24.2.2.2.2.2.2.2.2.2.2.2.2.2.2.2.2.2.2.2.2.2.2.2.2.1 rfl).symm
       rw [if_neg (by simp [Region.wanted, yielded, e24])]
       exact hK.out _ _ hg ⟨nn,nn,nn,nn,nn,nn,nn,nn,nn,nn,nn,nn,nn,nn,nn,nn,nn,nn,nn,nn,nn,nn,nn,nn,nn,nn,nn⟩ (fun _ _ h => h)
      case s26 =>
       intro a w' hoff hg hdep K hK
       obtain ⟨v24, e24, f24⟩ := hdep 24 _ 43 (by kernel_rfl) rfl rfl
       obtain rfl := (f24.2.2.2.2.2.2.2.2.2.2.2.2.2.2.2.2.2.2.2.2.2.2.2.2.1 rfl).symm
       rw [if_neg (by simp [Region.wanted, yielded, e24])]
       exact hK.out _ _ hg ⟨nn,nn,nn,nn,nn,nn,nn,nn,nn,nn,nn,nn,nn,nn,nn,nn,nn,nn,nn,nn,nn,nn,nn,nn,nn,nn,nn⟩ (fun _ _ h => h)
      case s27 =>
       intro a w' hoff hg hdep K hK
       obtain ⟨v24, e24, f24⟩ := hdep 24 _ 43 (by kernel_rfl) rfl rfl
       obtain rfl := (f24.2.2.2.2.2.2.2.2.2.2.2.2.2.2.2.2.2.2.2.2.2.2.2.2.1 rfl).symm
       rw [if_neg (by simp [Region.wanted, yielded, e24])]
       exact hK.out _ _ hg ⟨nn,nn,nn,nn,nn,nn,nn,nn,nn,nn,nn,nn,nn,nn,nn,nn,nn,nn,nn,nn,nn,nn,nn,nn,nn,nn,nn⟩ (fun _ _ h => h)
      case s28 =>
       intro a w' hoff hg hdep K hK
       obtain ⟨v24, e24, f24⟩ := hdep 24 _ 43 (by kernel_rfl) rfl rfl
       obtain rfl := (f24.2.2.2.2.2.2.2.2.2.2.2.2.2.2.2.2.2.2.2.2.2.2.2.2.1 rfl).symm
       rw [if_neg (by simp [Region.wanted, yielded, e24])]
       exact hK.out _ _ hg ⟨nn,nn,nn,nn,nn,nn,nn,nn,nn,nn,nn,nn,nn,nn,nn,nn,nn,nn,nn,nn,nn,nn,nn,nn,nn,nn,nn⟩ (fun _ _ h => h)
      case s29 =>
       intro a w' hoff hg hdep K hK
       obtain ⟨v24, e24, f24⟩ := hdep 24 _ 43 (by kernel_rfl) rfl rfl
       obtain rfl := (f24.2.2.2.2.2.2.2.2.2.2.2.2.2.2.2.2.2.2.2.2.2.2.2.2.1 rfl).symm
       rw [if_neg (by simp [Region.wanted, yielded, e24])]
       exact hK.out _ _ hg ⟨nn,nn,nn,nn,nn,nn,nn,nn,nn,nn,nn,nn,nn,nn,nn,nn,nn,nn,nn,nn,nn,nn,nn,nn,nn,nn,nn⟩ (fun _ _ h => h)
      case s30 =>
       intro a w' hoff hg hdep K hK
       obtain ⟨v24, e24, f24⟩ := hdep 24 _ 43 (by kernel_rfl) rfl rfl
       obtain rfl := (f24.2.2.2.2.2.2.2.2.2.2.2.2.2.2.2.2.2.2.2.2.2.2.2.2.1 rfl).symm
       rw [if_neg (by simp [Region.wanted, yielded, e24])]
       exact hK.out _ _ hg ⟨nn,nn,nn,nn,nn,nn,nn,nn,nn,nn,nn,nn,nn,nn,nn,nn,nn,nn,nn,nn,nn,nn,nn,nn,nn,nn,nn⟩ (fun _ _ h => h)
      case s31 =>
       intro a w' hoff hg hdep K hK
       obtain ⟨v24, e24, f24⟩ := hdep 24 _ 43 (by kernel_rfl) rfl rfl
       obtain rfl := (f24.2.2.2.2.2.2.2.2.2.2.2.2.2.2.2.2.2.2.2.2.2.2.2.2.1 rfl).symm
       rw [if_neg (by simp [Region.wanted, yielded, e24])]
       exact hK.out _ _ hg ⟨nn,nn,nn,nn,nn,nn,nn,nn,nn,nn,nn,nn,nn,nn,nn,nn,nn,nn,nn,nn,nn,nn,nn,nn,nn,nn,nn⟩ (fun _ _ h => h)
      case s32 =>
       intro a w' hoff hg hdep K hK
       obtain ⟨v24, e24, f24⟩ := hdep 24 _ 43 (by kernel_rfl) rfl rfl
       obtain rfl := (f24.2.2.2.2.2.2.2.2.2.2.2.2.2.2.2.2.2.2.2.2.2.2.2.2.1 rfl).symm
       rw [if_neg (by simp [Region.wanted, yielded, e24])]
       exact hK.out _ _ hg ⟨nn,nn,nn,nn,nn,nn,nn,nn,nn,nn,nn,nn,nn,nn,nn,nn,nn,nn,nn,nn,nn,nn,nn,nn,nn,nn,nn⟩ (fun _ _ h => h)
      case s33 =>
       intro a w' hoff hg hdep K hK
       obtain ⟨v24, e24, f24⟩ := hdep 24 _ 43 (by kernel_rfl) rfl rfl
       obtain rfl := (f24.2.2.2.2.2.2.2.2.2.2.2.2.2.2.2.2.2.2.2.2.2.2.2.2.1 rfl).symm
       rw [if_neg (by simp [Region.wanted, yielded, e24])]
       exact hK.out _ _ hg ⟨nn,nn,nn,nn,nn,nn,nn,nn,nn,nn,nn,nn,nn,nn,nn,nn,nn,nn,nn,nn,nn,nn,nn,nn,nn,nn,nn⟩ (fun _ _ h => h)
      case s34 =>
       intro a w' hoff hg hdep K hK
       obtain ⟨v24, e24, f24⟩ := hdep 24 _ 43 (by kernel_rfl) rfl rfl
       obtain rfl := (f24.2.2.2.2.2.2.2.2.2.2.2.2.2.2.2.2.2.2.2.2.2.2.2.2.1 rfl).symm
       rw [if_neg (by simp [Region.wanted, yielded, e24])]
       exact hK.out _ _ hg ⟨nn,nn,nn,nn,nn,nn,nn,nn,nn,nn,nn,nn,nn,nn,nn,nn,nn,nn,nn,nn,nn,nn,nn,nn,nn,nn,nn⟩ (fun _ _ h => h)
      case s35 =>
       intro a w' hoff hg hdep K hK
       obtain ⟨v24, e24, f24⟩ := hdep 24 _ 43 (by kernel_rfl) rfl rfl
       obtain rfl := (f24.2.2.2.2.2.2.2.2.2.2.2.2.2.2.2.2.2.2.2.2.2.2.2.2.1 rfl).symm
       rw [if_neg (by simp [Region.wanted, yielded, e24])]
       exact hK.out _ _ hg ⟨nn,nn,nn,nn,nn,nn,nn,nn,nn,nn,nn,nn,nn,nn,nn,nn,nn,nn,nn,nn,nn,nn,nn,nn,nn,nn,nn⟩ (fun _ _ h => h)
      case s36 =>
       intro a w' hoff hg hdep K hK
       obtain ⟨v24, e24, f24⟩ := hdep 24 _ 43 (by kernel_rfl) rfl rfl
       obtain rfl := (f24.2.2.2.2.2.2.2.2.2.2.2.2.2.2.2.2.2.2.2.2.2.2.2.2.1 rfl).symm
       obtain ⟨v35, e35, f35⟩ := hdep 35 _ 54 (by kernel_rfl) rfl rfl
       rw [if_pos (by rfl)]
       go_simp
       exact hK.out _ _ hg ⟨nn,nn,nn,nn,nn,nn,nn,nn,nn,nn,nn,nn,nn,nn,nn,nn,nn,nn,nn,nn,nn,nn,nn,nn,nn, fun _ => rfl, nn⟩ (fun _ _ h => h)
      case s37 =>
       intro a w' hoff hg hdep K hK
       obtain ⟨v36, e36, f36⟩ := hdep 36 _ 55 (by kernel_rfl) rfl rfl
       obtain rfl := (f36.2.2.2.2.2.2.2.2.2.2.2.2.2.2.2.2.2.2.2.2.2.2.2.2.2.1 rfl).symm
       rw [if_pos (by rfl)]
       go_simp
       exact hK.out _ _ hg ⟨nn,nn,nn,nn,nn,nn,nn,nn,nn,nn,nn,nn,nn,nn,nn,nn,nn,nn,nn,nn,nn,nn,nn,nn,nn,nn, fun _ => rfl⟩ (fun _ _ h => h)
      case fin =>
       intro a w9 hoff hg hf
       obtain ⟨v0, e0, f0⟩ := hf 0 _ 19 rfl rfl
       obtain rfl := (f0.1 rfl).symm
       obtain ⟨v1, e1, f1⟩ := hf 1 _ 20 rfl rfl
       obtain rfl := (f1.2.1 rfl).symm
       obtain ⟨v2, e2, f2⟩ := hf 2 _ 21 rfl rfl
       obtain rfl := (f2.2.2.1 rfl).symm
       obtain ⟨v3, e3, f3⟩ := hf 3 _ 22 rfl rfl
       obtain rfl := (f3.2.2.2.1 rfl).symm
       obtain ⟨v4, e4, f4⟩ := hf 4 _ 23 rfl rfl
       obtain rfl := (f4.2.2.2.2.1 rfl).symm
       obtain ⟨v5, e5, f5⟩ := hf 5 _ 24 rfl rfl
       obtain rfl := (f5.2.2.2.2.2.1 rfl).symm
       obtain ⟨v6, e6, f6⟩ := hf 6 _ 25 rfl rfl
       obtain rfl := (f6.2.2.2.2.2.2.1 rfl).symm
       obtain ⟨v7, e7, f7⟩ := hf 7 _ 26 rfl rfl
       obtain rfl := (f7.2.2.2.2.2.2.2.1 rfl).symm
       obtain ⟨v8, e8, f8⟩ := hf 8 _ 27 rfl rfl
       obtain rfl := (f8.2.2.2.2.2.2.2.2.1 rfl).symm
       obtain ⟨v9, e9, f9⟩ := hf 9 _ 28 rfl rfl
       obtain rfl := (f9.2.2.2.2.2.2.2.2.2.1 rfl).symm
       obtain ⟨v10, e10, f10⟩ := hf 10 _ 29 rfl rfl
       obtain rfl := (f10.2.2.2.2.2.2.2.2.2.2.1 rfl).symm
       obtain ⟨v11, e11, f11⟩ := hf 11 _ 30 rfl rfl
       obtain rfl := (f11.2.2.2.2.2.2.2.2.2.2.2.1 rfl).symm
       obtain ⟨v12, e12, f12⟩ := hf 12 _ 31 rfl rfl
       obtain rfl := (f12.2.2.2.2.2.2.2.2.2.2.2.2.1 rfl).symm
       obtain ⟨v13, e13, f13⟩ := hf 13 _ 32 rfl rfl
       obtain rfl := (f13.2.2.2.2.2.2.2.2.2.2.2.2.2.1 rfl).symm
       obtain ⟨v14, e14, f14⟩ := hf 14 _ 33 rfl rfl
       obtain rfl := (f14.2.2.2.2.2.2.2.2.2.2.2.2.2.2.1 rfl).symm
       obtain ⟨v15, e15, f15⟩ := hf 15 _ 34 rfl rfl
       obtain rfl := (f15.2.2.2.2.2.2.2.2.2.2.2.2.2.2.2.1 rfl).symm
       obtain ⟨v16, e16, f16⟩ := hf 16 _ 35 rfl rfl
       obtain rfl := (f16.2.2.2.2.2.2.2.2.2.2.2.2.2.2.2.2.1 rfl).symm
       obtain ⟨v17, e17, f17⟩ := hf 17 _ 36 rfl rfl
       obtain rfl := (f17.2.2.2.2.2.2.2.2.2.2.2.2.2.2.2.2.2.1 rfl).symm
       obtain ⟨v18, e18, f18⟩ := hf 18 _ 37 rfl rfl
       obtain rfl := (f18.2.2.2.2.2.2.2.2.2.2.2.2.2.2.2.2.2.2.1 rfl).symm
       obtain ⟨v19, e19, f19⟩ := hf 19 _ 38 rfl rfl
       obtain rfl := (f19.2.2.2.2.2.2.2.2.2.2.2.2.2.2.2.2.2.2.2.1 rfl).symm
       obtain ⟨v20, e20, f20⟩ := hf 20 _ 39 rfl rfl
       obtain rfl := (f20.2.2.2.2.2.2.2.2.2.2.2.2.2.2.2.2.2.2.2.2.1 rfl).symm
       obtain ⟨v21, e21, f21⟩ := hf 21 _ 40 rfl rfl
       obtain rfl := (f21.2.2.2.2.2.2.2.2.2.2.2.2.2.2.2.2.2.2.2.2.2.1 rfl).symm
       obtain ⟨v22, e22, f22⟩ := hf 22 _ 41 rfl rfl
       obtain rfl := (f22.2.2.2.2.2.2.2.2.2.2.2.2.2.2.2.2.2.2.2.2.2.2.1 rfl).symm
       obtain ⟨v23, e23, f23⟩ := hf 23 _ 42 rfl rfl
       obtain rfl := (f23.2.2.2.2.2.2.2.2.2.2.2.2.2.2.2.2.2.2.2.2.2.2.2.1 rfl).symm
       obtain ⟨v24, e24, f24⟩ := hf 24 _ 43 rfl rfl
       obtain rfl := (f24.2.2.2.2.2.2.2.2.2.2.2.2.2.2.2.2.2.2.2.2.2.2.2.2.1 rfl).symm
       obtain ⟨v25, e25, f25⟩ := hf 25 _ 44 rfl rfl
       obtain ⟨v26, e26, f26⟩ := hf 26 _ 45 rfl rfl
       obtain ⟨v27, e27, f27⟩ := hf 27 _ 46 rfl rfl
       obtain ⟨v28, e28, f28⟩ := hf 28 _ 47 rfl rfl
       obtain ⟨v29, e29, f29⟩ := hf 29 _ 48 rfl rfl
       obtain ⟨v30, e30, f30⟩ := hf 30 _ 49 rfl rfl
       obtain ⟨v31, e31, f31⟩ := hf 31 _ 50 rfl rfl
       obtain ⟨v32, e32, f32⟩ := hf 32 _ 51 rfl rfl
       obtain ⟨v33, e33, f33⟩ := hf 33 _ 52 rfl rfl
       obtain ⟨v34, e34, f34⟩ := hf 34 _ 53 rfl rfl
       obtain ⟨v35, e35, f35⟩ := hf 35 _ 54 rfl rfl
       obtain ⟨v36, e36, f36⟩ := hf 36 _ 55 rfl rfl
       obtain rfl := (f36.2.2.2.2.2.2.2.2.2.2.2.2.2.2.2.2.2.2.2.2.2.2.2.2.2.1 rfl).symm
       obtain ⟨v37, e37, f37⟩ := hf 37 _ 6 rfl rfl
       obtain rfl := (f37.2.2.2.2.2.2.2.2.2.2.2.2.2.2.2.2.2.2.2.2.2.2.2.2.2.2 rfl).symm
       rw [hoff.sets [(19, .slice (some ⟨lb, lo, none⟩) l.length ac), (20, .int .i64 (k : Int)), (21, .pointer (some ⟨lb, lo + k * 7, none⟩)), (22, .pointer (some ⟨lb, lo + k * 7, none⟩)), (23, .int .i64 x.kind), (24, .slice (some ⟨mb, mo, none⟩) m.length bc), (25, .int .i64 (k : Int)), (26, .pointer (some ⟨mb, mo + k * 7, none⟩)), (27, .pointer (some ⟨mb, mo + k * 7, none⟩)), (28, .int .i64 y.kind), (29, .bool true), (30, .bool true), (31, .slice (some ⟨lb, lo, none⟩) l.length ac), (32, .int .i64 (k : Int)), (33, .pointer (some ⟨lb, lo + k * 7, none⟩)), (34, .pointer (some ⟨lb, lo + k * 7 + 1, none⟩)), (35, .string x.name), (36, .slice (some ⟨mb, mo, none⟩) m.length bc), (37, .int .i64 (k : Int)), (38, .pointer (some ⟨mb, mo + k * 7, none⟩)), (39, .pointer (some ⟨mb, mo + k * 7 + 1, none⟩)), (40, .string y.name), (41, .bool false), (42, .bool false), (43, .bool false), (44, v25), (45, v26), (46, v27), (47, v28), (48, v29), (49, v30), (50, v31), (51, v32), (52, v33), (53, v34), (54, v35), (55, .bool false), (6, .bool false)] (by kernel_rfl) (by intro p hp; simp only [List.mem_cons, List.not_mem_nil, or_false] at hp; rcases hp with rfl | rfl | rfl | rfl | rfl | rfl | rfl | rfl | rfl | rfl | rfl | rfl | rfl | rfl | rfl | rfl | rfl | rfl | rfl | rfl | rfl | rfl | rfl | rfl | rfl | rfl | rfl | rfl | rfl | rfl | rfl | rfl | rfl | rfl | rfl | rfl | rfl | rfl <;> assumption)]
       clear hoff hf e0 f0 e1 f1 e2 f2 e3 f3 e4 f4 e5 f5 e6 f6 e7 f7 e8 f8 e9 f9 e10 f10 e11 f11 e12 f12 e13 f13 e14 f14 e15 f15 e16 f16 e17 f17 e18 f18 e19 f19 e20 f20 e21 f21 e22 f22 e23 f23 e24 f24 e25 f25 e26 f26 e27 f27 e28 f28 e29 f29 e30 f30 e31 f31 e32 f32 e33 f33 e34 f34 e35 f35 e36 f36 e37 f37
       simp only [List.foldl_cons, List.foldl_nil, List.setIfInBounds_toArray, List.set_cons_zero, List.set_cons_succ]
       have HG9 := Lib.hid hg
       clear hg
       go_wp2_with fail
       refine wp_region_factsG (by rfl) 73 (by rfl) (by kernel_rfl) (fun wz iz vz => (iz = 0 → vz = .slice (some ⟨lb, lo, none⟩) l.length ac) ∧ (iz = 1 → vz = .int .i64 (k : Int)) ∧ (iz = 2 → vz = .pointer (some ⟨lb, lo + k * 7, none⟩)) ∧ (iz = 3 → vz = .pointer (some ⟨lb, lo + k * 7 + 6, none⟩)) ∧ (iz = 4 → vz = .slice xa x.args.length xd) ∧ (iz = 5 → vz = .slice (some ⟨mb, mo, none⟩) m.length bc) ∧ (iz = 6 → vz = .int .i64 (k : Int)) ∧ (iz = 7 → vz = .pointer (some ⟨mb, mo + k * 7, none⟩)) ∧ (iz = 8 → vz = .pointer (some ⟨mb, mo + k * 7 + 6, none⟩)) ∧ (iz = 9 → vz = .slice ya y.args.length yd) ∧ (iz = 10 → vz = .bool v2) ∧ (iz = 11 → vz = .bool v2)) (fun w' => Below w9.heap.size w9 w') (Below.drew (Below.refl _ _)) ⟨?s0, ?s1, ?s2, ?s3, ?s4, ?s5, ?s6, ?s7, ?s8, ?s9, ?s10, ?s11, trivial⟩ ?fin
       case s0 =>
        intro a w' hoff hg hdep K hK
        have h0 := off_at hoff 0 (v := .slice (some ⟨lb, lo, none⟩) l.length ac) (by kernel_rfl) rfl
        rw [if_pos (by rfl)]
        go_simp
        exact hK.out _ _ hg ⟨fun _ => rfl, nn,nn,nn,nn,nn,nn,nn,nn,nn,nn,nn⟩ (fun _ _ h => h)
       case s1 =>
        intro a w' hoff hg hdep K hK
        have h5 := off_at hoff 5 (v := .int .i64 (k : Int)) (by kernel_rfl) rfl
        rw [if_pos (by rfl)]
        go_simp
        exact hK.out _ _ hg ⟨nn, fun _ => rfl, nn,nn,nn,nn,nn,nn,nn,nn,nn,nn⟩ (fun _ _ h => h)
       case s2 =>
        intro a w' hoff hg hdep K hK
        obtain ⟨v0, e0, f0⟩ := hdep 0 _ 56 (by kernel_rfl) rfl rfl
        obtain rfl := (f0.1 rfl).symm
        obtain ⟨v1, e1, f1⟩ := hdep 1 _ 57 (by kernel_rfl) rfl rfl
        obtain rfl := (f1.2.1 rfl).symm
        have hk1 := HK1.out; have hk2 := HK2.out
        rw [if_pos (by rfl)]
        go_simp
        exact hK.out _ _ hg ⟨nn,nn, fun _ => rfl, nn,nn,nn,nn,nn,nn,nn,nn,nn⟩ (fun _ _ h => h)
       case s3 =>
        intro a w' hoff hg hdep K hK
        obtain ⟨v2, e2, f2⟩ := hdep 2 _ 58 (by kernel_rfl) rfl rfl
        obtain rfl := (f2.2.2.1 rfl).symm
        rw [if_pos (by rfl)]
        go_simp
        exact hK.out _ _ hg ⟨nn,nn,nn, fun _ => rfl, nn,nn,nn,nn,nn,nn,nn,nn⟩ (fun _ _ h => h)
       case s4 =>
        intro a w' hoff hg hdep K hK
        obtain ⟨v3, e3, f3⟩ := hdep 3 _ 59 (by kernel_rfl) rfl rfl
        obtain rfl := (f3.2.2.2.1 rfl).symm
        rw [if_pos (by rfl)]
        have q0 := ((Below.step HG9.out hg).cell (p := ⟨lb, lo + k * 7, none⟩) HLB.out).trans Q0.out; have q1 := ((Below.step HG9.out hg).cell (p := ⟨lb, lo + k * 7 + 1, none⟩) HLB.out).trans Q1.out; have q2 := ((Below.step HG9.out hg).cell (p := ⟨lb, lo + k * 7 + 2, none⟩) HLB.out).trans Q2.out; have q3 := ((Below.step HG9.out hg).cell (p := ⟨lb, lo + k * 7 + 3, none⟩) HLB.out).trans Q3.out; have q4 := ((Below.step HG9.out hg).cell (p := ⟨lb, lo + k * 7 + 4, none⟩) HLB.out).trans Q4.out; have q5 := ((Below.step HG9.out hg).cell (p := ⟨lb, lo + k * 7 + 5, none⟩) HLB.out).trans Q5.out; have q6 := ((Below.step HG9.out hg).cell (p := ⟨lb, lo + k * 7 + 6, none⟩) HLB.out).trans Q6.out; have p0 := ((Below.step HG9.out hg).cell (p := ⟨mb, mo + k * 7, none⟩) HMB.out).trans P0.out; have p1 := ((Below.step HG9.out hg).cell (p := ⟨mb, mo + k * 7 + 1, none⟩) HMB.out).trans P1.out; have p2 := ((Below.step HG9.out hg).cell (p := ⟨mb, mo + k * 7 + 2, none⟩) HMB.out).trans P2.out; have p3 := ((Below.step HG9.out hg).cell (p := ⟨mb, mo + k * 7 + 3, none⟩) HMB.out).trans P3.out; have p4 := ((Below.step HG9.out hg).cell (p := ⟨mb, mo + k * 7 + 4, none⟩) HMB.out).trans P4.out; have p5 := ((Below.step HG9.out hg).cell (p := ⟨mb, mo + k * 7 + 5, none⟩) HMB.out).trans P5.out; have p6 := ((Below.step HG9.out hg).cell (p := ⟨mb, mo + k * 7 + 6, none⟩) HMB.out).trans P6.out
        go_simp
        exact hK.out _ _ hg ⟨nn,nn,nn,nn, fun _ => rfl, nn,nn,nn,nn,nn,nn,nn⟩ (fun _ _ h => h)
       case s5 =>
        intro a w' hoff hg hdep K hK
        have h1 := off_at hoff 1 (v := .slice (some ⟨mb, mo, none⟩) m.length bc) (by kernel_rfl) rfl
        rw [if_pos (by rfl)]
        go_simp
        exact hK.out _ _ hg ⟨nn,nn,nn,nn,nn, fun _ => rfl, nn,nn,nn,nn,nn,nn⟩ (fun _ _ h => h)
       case s6 =>
        intro a w' hoff hg hdep K hK
        have h5 := off_at hoff 5 (v := .int .i64 (k : Int)) (by kernel_rfl) rfl
        rw [if_pos (by rfl)]
        go_simp
        exact hK.out _ _ hg ⟨nn,nn,nn,nn,nn,nn, fun _ => rfl, nn,nn,nn,nn,nn⟩ (fun _ _ h => h)
       case s7 =>
        intro a w' hoff hg hdep K hK
        obtain ⟨v5, e5, f5⟩ := hdep 5 _ 61 (by kernel_rfl) rfl rfl
        obtain rfl := (f5.2.2.2.2.2.1 rfl).symm
        obtain ⟨v6, e6, f6⟩ := hdep 6 _ 62 (by kernel_rfl) rfl rfl
        obtain rfl := (f6.2.2.2.2.2.2.1 rfl).symm
        have hk1 := HK1.out; have hk3 := HK3.out
        rw [if_pos (by rfl)]
        go_simp
        exact hK.out _ _ hg ⟨nn,nn,nn,nn,nn,nn,nn, fun _ => rfl, nn,nn,nn,nn⟩ (fun _ _ h => h)
       case s8 =>
        intro a w' hoff hg hdep K hK
        obtain ⟨v7, e7, f7⟩ := hdep 7 _ 63 (by kernel_rfl) rfl rfl
        obtain rfl := (f7.2.2.2.2.2.2.2.1 rfl).symm
        rw [if_pos (by rfl)]
        go_simp
        exact hK.out _ _ hg ⟨nn,nn,nn,nn,nn,nn,nn,nn, fun _ => rfl, nn,nn,nn⟩ (fun _ _ h => h)
       case s9 =>
        intro a w' hoff hg hdep K hK
        obtain ⟨v8, e8, f8⟩ := hdep 8 _ 64 (by kernel_rfl) rfl rfl
        obtain rfl := (f8.2.2.2.2.2.2.2.2.1 rfl).symm
        rw [if_pos (by rfl)]
        have q0 := ((Below.step HG9.out hg).cell (p := ⟨lb, lo + k * 7, none⟩) HLB.out).trans Q0.out; have q1 := ((Below.step HG9.out hg).cell (p := ⟨lb, lo + k * 7 + 1, none⟩) HLB.out).trans Q1.out; have q2 := ((Below.step HG9.out hg).cell (p := ⟨lb, lo + k * 7 + 2, none⟩) HLB.out).trans Q2.out; have q3 := ((Below.step HG9.out hg).cell (p := ⟨lb, lo + k * 7 + 3, none⟩) HLB.out).trans Q3.out; have q4 := ((Below.step HG9.out hg).cell (p := ⟨lb, lo + k * 7 + 4, none⟩) HLB.out).trans Q4.out; have q5 := ((Below.step HG9.out hg).cell (p := ⟨lb, lo + k * 7 + 5, none⟩) HLB.out).trans Q5.out; have q6 := ((Below.step HG9.out hg).cell (p := ⟨lb, lo + k * 7 + 6, none⟩) HLB.out).trans Q6.out; have p0 := ((Below.step HG9.out hg).cell (p := ⟨mb, mo + k * 7, none⟩) HMB.out).trans P0.out; have p1 := ((Below.step HG9.out hg).cell (p := ⟨mb, mo + k * 7 + 1, none⟩) HMB.out).trans P1.out; have p2 := ((Below.step HG9.out hg).cell (p := ⟨mb, mo + k * 7 + 2, none⟩) HMB.out).trans P2.out; have p3 := ((Below.step HG9.out hg).cell (p := ⟨mb, mo + k * 7 + 3, none⟩) HMB.out).trans P3.out; have p4 := ((Below.step HG9.out hg).cell (p := ⟨mb, mo + k * 7 + 4, none⟩) HMB.out).trans P4.out; have p5 := ((Below.step HG9.out hg).cell (p := ⟨mb, mo + k * 7 + 5, none⟩) HMB.out).trans P5.out; have p6 := ((Below.step HG9.out hg).cell (p := ⟨mb, mo + k * 7 + 6, none⟩) HMB.out).trans P6.out
        go_simp
        exact hK.out _ _ hg ⟨nn,nn,nn,nn,nn,nn,nn,nn,nn, fun _ => rfl, nn,nn⟩ (fun _ _ h => h)
       case s10 =>
        intro a w' hoff hg hdep K hK
        obtain ⟨v4, e4, f4⟩ := hdep 4 _ 60 (by kernel_rfl) rfl rfl
        obtain rfl := (f4.2.2.2.2.1 rfl).symm
        obtain ⟨v9, e9, f9⟩ := hdep 9 _ 65 (by kernel_rfl) rfl rfl
        obtain rfl := (f9.2.2.2.2.2.2.2.2.2.1 rfl).symm
        rw [if_pos (by rfl)]
        go_simp
        refine (HIH.out x (HXM.out) y.args S w' _ _ (fun j hj => Nat.lt_of_lt_of_le (HSR.out j hj) (Below.step HG9.out hg).size) (RepMs.on (fun _ h => h) (fun j hj => (Below.step HG9.out hg).block j (HSR.out j hj)) GX.out.lst) (RepMs.on (fun _ h => h) (fun j hj => (Below.step HG9.out hg).block j (HSR.out j hj)) GY.out.lst)).mono ?_
        rw [HV2.out]
        rintro e w2' ⟨rfl, hb⟩
        exact hK.out _ _ (Below.step hg hb) ⟨nn,nn,nn,nn,nn,nn,nn,nn,nn,nn, fun _ => rfl, nn⟩ (fun _ _ h => ⟨h.1, h.2.1, h.2.2.1, h.2.2.2.1, h.2.2.2.2.1, h.2.2.2.2.2.1, h.2.2.2.2.2.2.1, h.2.2.2.2.2.2.2.1, h.2.2.2.2.2.2.2.2.1, h.2.2.2.2.2.2.2.2.2.1, h.2.2.2.2.2.2.2.2.2.2.1, h.2.2.2.2.2.2.2.2.2.2.2⟩)
       case s11 =>
        intro a w' hoff hg hdep K hK
        obtain ⟨v10, e10, f10⟩ := hdep 10 _ 66 (by kernel_rfl) rfl rfl
        obtain rfl := (f10.2.2.2.2.2.2.2.2.2.2.1 rfl).symm
        rw [if_pos (by rfl)]
        go_simp
        exact hK.out _ _ hg ⟨nn,nn,nn,nn,nn,nn,nn,nn,nn,nn,nn, fun _ => rfl⟩ (fun _ _ h => h)
       case fin =>
        intro a w10 hoff hg hf
        obtain ⟨v0, e0, f0⟩ := hf 0 _ 56 rfl rfl
        obtain rfl := (f0.1 rfl).symm
        obtain ⟨v1, e1, f1⟩ := hf 1 _ 57 rfl rfl
        obtain rfl := (f1.2.1 rfl).symm
        obtain ⟨v2, e2, f2⟩ := hf 2 _ 58 rfl rfl
        obtain rfl := (f2.2.2.1 rfl).symm
        obtain ⟨v3, e3, f3⟩ := hf 3 _ 59 rfl rfl
        obtain rfl := (f3.2.2.2.1 rfl).symm
        obtain ⟨v4, e4, f4⟩ := hf 4 _ 60 rfl rfl
        obtain rfl := (f4.2.2.2.2.1 rfl).symm
        obtain ⟨v5, e5, f5⟩ := hf 5 _ 61 rfl rfl
        obtain rfl := (f5.2.2.2.2.2.1 rfl).symm
        obtain ⟨v6, e6, f6⟩ := hf 6 _ 62 rfl rfl
        obtain rfl := (f6.2.2.2.2.2.2.1 rfl).symm
        obtain ⟨v7, e7, f7⟩ := hf 7 _ 63 rfl rfl
        obtain rfl := (f7.2.2.2.2.2.2.2.1 rfl).symm
        obtain ⟨v8, e8, f8⟩ := hf 8 _ 64 rfl rfl
        obtain rfl := (f8.2.2.2.2.2.2.2.2.1 rfl).symm
        obtain ⟨v9, e9, f9⟩ := hf 9 _ 65 rfl rfl
        obtain rfl := (f9.2.2.2.2.2.2.2.2.2.1 rfl).symm
        obtain ⟨v10, e10, f10⟩ := hf 10 _ 66 rfl rfl
        obtain rfl := (f10.2.2.2.2.2.2.2.2.2.2.1 rfl).symm
        obtain ⟨v11, e11, f11⟩ := hf 11 _ 7 rfl rfl
        obtain rfl := (f11.2.2.2.2.2.2.2.2.2.2.2 rfl).symm
        rw [hoff.sets [(56, .slice (some ⟨lb, lo, none⟩) l.length ac), (57, .int .i64 (k : Int)), (58, .pointer (some ⟨lb, lo + k * 7, none⟩)), (59, .pointer (some ⟨lb, lo + k * 7 + 6, none⟩)), (60, .slice xa x.args.length xd), (61, .slice (some ⟨mb, mo, none⟩) m.length bc), (62, .int .i64 (k : Int)), (63, .pointer (some ⟨mb, mo + k * 7, none⟩)), (64, .pointer (some ⟨mb, mo + k * 7 + 6, none⟩)), (65, .slice ya y.args.length yd), (66, .bool v2), (7, .bool v2)] (by kernel_rfl) (by intro p hp; simp only [List.mem_cons, List.not_mem_nil, or_false] at hp; rcases hp with rfl | rfl | rfl | rfl | rfl | rfl | rfl | rfl | rfl | rfl | rfl | rfl <;> assumption)]
        clear hoff hf e0 f0 e1 f1 e2 f2 e3 f3 e4 f4 e5 f5 e6 f6 e7 f7 e8 f8 e9 f9 e10 f10 e11 f11
        simp only [List.foldl_cons, List.foldl_nil, List.setIfInBounds_toArray, List.set_cons_zero, List.set_cons_succ]
        have HB10 := Lib.hid (Below.step HBEL.out (Below.step HG9.out hg))
        clear hg
        go_wp2_with fail
        go_ret
        exact ⟨retB (by rw [eqB_false HF1.out]), HB10.out⟩
    ·have HKK : Hid ((x.kind == y.kind) = false) := Lib.hid (by simp [hke])
     have HF1 : Hid (¬ l = m) := by
      show ¬ _
      intro e
      exact hke (HEX.out.1 (HDR.out.1 (HREC.out.1 e)).1).1
     clear hke
     go_wp2_with fail
     refine wp_region_factsG (by rfl) 73 (by rfl) (by kernel_rfl) (fun wz iz vz => (iz = 0 → vz = .slice (some ⟨lb, lo, none⟩) l.length ac) ∧ (iz = 1 → vz = .int .i64 (k : Int)) ∧ (iz = 2 → vz = .pointer (some ⟨lb, lo + k * 7, none⟩)) ∧ (iz = 3 → vz = .pointer (some ⟨lb, lo + k * 7, none⟩)) ∧ (iz = 4 → vz = .int .i64 x.kind) ∧ (iz = 5 → vz = .slice (some ⟨mb, mo, none⟩) m.length bc) ∧ (iz = 6 → vz = .int .i64 (k : Int)) ∧ (iz = 7 → vz = .pointer (some ⟨mb, mo + k * 7, none⟩)) ∧ (iz = 8 → vz = .pointer (some ⟨mb, mo + k * 7, none⟩)) ∧ (iz = 9 → vz = .int .i64 y.kind) ∧ (iz = 10 → vz = .bool false) ∧ (iz = 11 → vz = .bool false) ∧ (iz = 23 → vz = .bool false) ∧ (iz = 24 → vz = .bool false) ∧ (iz = 36 → vz = .bool false) ∧ (iz = 37 → vz = .bool false)) (fun w' => Below wr.heap.size wr w') (Below.drew (Below.refl _ _)) ⟨?s0, ?s1, ?s2, ?s3, ?s4, ?s5, ?s6, ?s7, ?s8, ?s9, ?s10, ?s11, ?s12, ?s13, ?s14, ?s15, ?s16, ?s17, ?s18, ?s19, ?s20, ?s21, ?s22, ?s23, ?s24, ?s25, ?s26, ?s27, ?s28, ?s29, ?s30, ?s31, ?s32, ?s33, ?s34, ?s35, ?s36, ?s37, trivial⟩ ?fin
     case s0 =>
      intro a w' hoff hg hdep K hK
      have h0 := off_at hoff 0 (v := .slice (some ⟨lb, lo, none⟩) l.length ac) (by kernel_rfl) rfl
      rw [if_pos (by rfl)]
      go_simp
      exact hK.out _ _ hg ⟨fun _ => rfl, nn,nn,nn,nn,nn,nn,nn,nn,nn,nn,nn,nn,nn,nn,nn⟩ (fun _ _ h => h)
     case s1 =>
      intro a w' hoff hg hdep K hK
      have h5 := off_at hoff 5 (v := .int .i64 (k : Int)) (by kernel_rfl) rfl
      rw [if_pos (by rfl)]
      go_simp
      exact hK.out _ _ hg ⟨nn, fun _ => rfl, nn,nn,nn,nn,nn,nn,nn,nn,nn,nn,nn,nn,nn,nn⟩ (fun _ _ h => h)
     case s2 =>
      intro a w' hoff hg hdep K hK
      obtain ⟨v0, e0, f0⟩ := hdep 0 _ 19 (by kernel_rfl) rfl rfl
      obtain rfl := (f0.1 rfl).symm
      obtain ⟨v1, e1, f1⟩ := hdep 1 _ 20 (by kernel_rfl) rfl rfl
      obtain rfl := (f1.2.1 rfl).symm
      have hk1 := HK1.out; have hk2 := HK2.out
      rw [if_pos (by rfl)]
      go_simp
      exact hK.out _ _ hg ⟨nn,nn, fun _ => rfl, nn,nn,nn,nn,nn,nn,nn,nn,nn,nn,nn,nn,nn⟩ (fun _ _ h => h)
     case s3 =>
      intro a w' hoff hg hdep K hK
      obtain ⟨v2, e2, f2⟩ := hdep 2 _ 21 (by kernel_rfl) rfl rfl
      obtain rfl := (f2.2.2.1 rfl).symm
      rw [if_pos (by rfl)]
      go_simp
      exact hK.out _ _ hg ⟨nn,nn,nn, fun _ => rfl, nn,nn,nn,nn,nn,nn,nn,nn,nn,nn,nn,nn⟩ (fun _ _ h => h)
     case s4 =>
      intro a w' hoff hg hdep K hK
      obtain ⟨v3, e3, f3⟩ := hdep 3 _ 22 (by kernel_rfl) rfl rfl
      obtain rfl := (f3.2.2.2.1 rfl).symm
      rw [if_pos (by rfl)]
      have q0 := (hg.cell (p := ⟨lb, lo + k * 7, none⟩) HLB.out).trans Q0.out; have q1 := (hg.cell (p := ⟨lb, lo + k * 7 + 1, none⟩) HLB.out).trans Q1.out; have q2 := (hg.cell (p := ⟨lb, lo + k * 7 + 2, none⟩) HLB.out).trans Q2.out; have q3 := (hg.cell (p := ⟨lb, lo + k * 7 + 3, none⟩) HLB.out).trans Q3.out; have q4 := (hg.cell (p := ⟨lb, lo + k * 7 + 4, none⟩) HLB.out).trans Q4.out; have q5 := (hg.cell (p := ⟨lb, lo + k * 7 + 5, none⟩) HLB.out).trans Q5.out; have q6 := (hg.cell (p := ⟨lb, lo + k * 7 + 6, none⟩) HLB.out).trans Q6.out; have p0 := (hg.cell (p := ⟨mb, mo + k * 7, none⟩) HMB.out).trans P0.out; have p1 := (hg.cell (p := ⟨mb, mo + k * 7 + 1, none⟩) HMB.out).trans P1.out; have p2 := (hg.cell (p := ⟨mb, mo + k * 7 + 2, none⟩) HMB.out).trans P2.out; have p3 := (hg.cell (p := ⟨mb, mo + k * 7 + 3, none⟩) HMB.out).trans P3.out; have p4 := (hg.cell (p := ⟨mb, mo + k * 7 + 4, none⟩) HMB.out).trans P4.out; have p5 := (hg.cell (p := ⟨mb, mo + k * 7 + 5, none⟩) HMB.out).trans P5.out; have p6 := (hg.cell (p := ⟨mb, mo + k * 7 + 6, none⟩) HMB.out).trans P6.out
      go_simp
      exact hK.out _ _ hg ⟨nn,nn,nn,nn, fun _ => rfl, nn,nn,nn,nn,nn,nn,nn,nn,nn,nn,nn⟩ (fun _ _ h => h)
     case s5 =>
      intro a w' hoff hg hdep K hK
      have h1 := off_at hoff 1 (v := .slice (some ⟨mb, mo, none⟩) m.length bc) (by kernel_rfl) rfl
      rw [if_pos (by rfl)]
      go_simp
      exact hK.out _ _ hg ⟨nn,nn,nn,nn,nn, fun _ => rfl, nn,nn,nn,nn,nn,nn,nn,nn,nn,nn⟩ (fun _ _ h => h)
     case s6 =>
      intro a w' hoff hg hdep K hK
      have h5 := off_at hoff 5 (v := .int .i64 (k : Int)) (by kernel_rfl) rfl
      rw [if_pos (by rfl)]
      go_simp
      exact hK.out _ _ hg ⟨nn,nn,nn,nn,nn,nn, fun _ => rfl, nn,nn,nn,nn,nn,nn,nn,nn,nn⟩ (fun _ _ h => h)
     case s7 =>
      intro a w' hoff hg hdep K hK
      obtain ⟨v5, e5, f5⟩ := hdep 5 _ 24 (by kernel_rfl) rfl rfl
      obtain rfl := (f5.2.2.2.2.2.1 rfl).symm
      obtain ⟨v6, e6, f6⟩ := hdep 6 _ 25 (by kernel_rfl) rfl rfl
      obtain rfl := (f6.2.2.2.2.2.2.1 rfl).symm
      have hk1 := HK1.out; have hk3 := HK3.out
      rw [if_pos (by rfl)]
      go_simp
      exact hK.out _ _ hg ⟨nn,nn,nn,nn,nn,nn,nn, fun _ => rfl, nn,nn,nn,nn,nn,nn,nn,nn⟩ (fun _ _ h => h)
     case s8 =>
      intro a w' hoff hg hdep K hK
      obtain ⟨v7, e7, f7⟩ := hdep 7 _ 26 (by kernel_rfl) rfl rfl
      obtain rfl := (f7.2.2.2.2.2.2.2.1 rfl).symm
      rw [if_pos (by rfl)]
      go_simp
      exact hK.out _ _ hg ⟨nn,nn,nn,nn,nn,nn,nn,nn, fun _ => rfl, nn,nn,nn,nn,nn,nn,nn⟩ (fun _ _ h => h)
     case s9 =>
      intro a w' hoff hg hdep K hK
      obtain ⟨v8, e8, f8⟩ := hdep 8 _ 27 (by kernel_rfl) rfl rfl
      obtain rfl := (f8.2.2.2.2.2.2.2.2.1 rfl).symm
      rw [if_pos (by rfl)]
      have q0 := (hg.cell (p := ⟨lb, lo + k * 7, none⟩) HLB.out).trans Q0.out; have q1 := (hg.cell (p := ⟨lb, lo + k * 7 + 1, none⟩) HLB.out).trans Q1.out; have q2 := (hg.cell (p := ⟨lb, lo + k * 7 + 2, none⟩) HLB.out).trans Q2.out; have q3 := (hg.cell (p := ⟨lb, lo + k * 7 + 3, none⟩) HLB.out).trans Q3.out; have q4 := (hg.cell (p := ⟨lb, lo + k * 7 + 4, none⟩) HLB.out).trans Q4.out; have q5 := (hg.cell (p := ⟨lb, lo + k * 7 + 5, none⟩) HLB.out).trans Q5.out; have q6 := (hg.cell (p := ⟨lb, lo + k * 7 + 6, none⟩) HLB.out).trans Q6.out; have p0 := (hg.cell (p := ⟨mb, mo + k * 7, none⟩) HMB.out).trans P0.out; have p1 := (hg.cell (p := ⟨mb, mo + k * 7 + 1, none⟩) HMB.out).trans P1.out; have p2 := (hg.cell (p := ⟨mb, mo + k * 7 + 2, none⟩) HMB.out).trans P2.out; have p3 := (hg.cell (p := ⟨mb, mo + k * 7 + 3, none⟩) HMB.out).trans P3.out; have p4 := (hg.cell (p := ⟨mb, mo + k * 7 + 4, none⟩) HMB.out).trans P4.out; have p5 := (hg.cell (p := ⟨mb, mo + k * 7 + 5, none⟩) HMB.out).trans P5.out; have p6 := (hg.cell (p := ⟨mb, mo + k * 7 + 6, none⟩) HMB.out).trans P6.out
      go_simp
      exact hK.out _ _ hg ⟨nn,nn,nn,nn,nn,nn,nn,nn,nn, fun _ => rfl, nn,nn,nn,nn,nn,nn⟩ (fun _ _ h => h)
     case s10 =>
      intro a w' hoff hg hdep K hK
      obtain ⟨v4, e4, f4⟩ := hdep 4 _ 23 (by kernel_rfl) rfl rfl
      obtain rfl := (f4.2.2.2.2.1 rfl).symm
      obtain ⟨v9, e9, f9⟩ := hdep 9 _ 28 (by kernel_rfl) rfl rfl
      obtain rfl := (f9.2.2.2.2.2.2.2.2.2.1 rfl).symm
      rw [if_pos (by rfl)]
      have hkk := HKK.out
      go_simp
      exact hK.out _ _ hg ⟨nn,nn,nn,nn,nn,nn,nn,nn,nn,nn, fun _ => rfl, nn,nn,nn,nn,nn⟩ (fun _ _ h => h)
     case s11 =>
      intro a w' hoff hg hdep K hK
      obtain ⟨v10, e10, f10⟩ := hdep 10 _ 29 (by kernel_rfl) rfl rfl
      obtain rfl := (f10.2.2.2.2.2.2.2.2.2.2.1 rfl).symm
      rw [if_pos (by rfl)]
      go_simp
      exact hK.out _ _ hg ⟨nn,nn,nn,nn,nn,nn,nn,nn,nn,nn,nn, fun _ => rfl, nn,nn,nn,nn⟩ (fun _ _ h => h)
     case s12 =>
      intro a w' hoff hg hdep K hK
      obtain ⟨v11, e11, f11⟩ := hdep 11 _ 30 (by kernel_rfl) rfl rfl
      obtain rfl := (f11.2.2.2.2.2.2.2.2.2.2.2.1 rfl).symm
      rw [if_neg (by simp [Region.wanted, yielded, e11])]
      exact hK.out _ _ hg ⟨nn,nn,nn,nn,nn,nn,nn,nn,nn,nn,nn,nn,nn,nn,nn,nn⟩ (fun _ _ h => h)
     case s13 =>
      intro a w' hoff hg hdep K hK
      obtain ⟨v11, e11, f11⟩ := hdep 11 _ 30 (by kernel_rfl) rfl rfl
      obtain rfl := (f11.2.2.2.2.2.2.2.2.2.2.2.1 rfl).symm
      rw [if_neg (by simp [Region.wanted, yielded, e11])]
      exact hK.out _ _ hg ⟨nn,nn,nn,nn,nn,nn,nn,nn,nn,nn,nn,nn,nn,nn,nn,nn⟩ (fun _ _ h => h)
     case s14 =>
      intro a w' hoff hg hdep K hK
      obtain ⟨v11, e11, f11⟩ := hdep 11 _ 30 (by kernel_rfl) rfl rfl
      obtain rfl := (f11.2.2.2.2.2.2.2.2.2.2.2.1 rfl).symm
      rw [if_neg (by simp [Region.wanted, yielded, e11])]
      exact hK.out _ _ hg ⟨nn,nn,nn,nn,nn,nn,nn,nn,nn,nn,nn,nn,nn,nn,nn,nn⟩ (fun _ _ h => h)
     case s15 =>
      intro a w' hoff hg hdep K hK
      obtain ⟨v11, e11, f11⟩ := hdep 11 _ 30 (by kernel_rfl) rfl rfl
      obtain rfl := (f11.2.2.2.2.2.2.2.2.2.2.2.1 rfl).symm
      rw [if_neg (by simp [Region.wanted, yielded, e11])]
      exact hK.out _ _ hg ⟨nn,nn,nn,nn,nn,nn,nn,nn,nn,nn,nn,nn,nn,nn,nn,nn⟩ (fun _ _ h => h)
     case s16 =>
      intro a w' hoff hg hdep K hK
      obtain ⟨v11, e11, f11⟩ := hdep 11 _ 30 (by kernel_rfl) rfl rfl
      obtain rfl := (f11.2.2.2.2.2.2.2.2.2.2.2.1 rfl).symm
      rw [if_neg (by simp [Region.wanted, yielded, e11])]
      exact hK.out _ _ hg ⟨nn,nn,nn,nn,nn,nn,nn,nn,nn,nn,nn,nn,nn,nn,nn,nn⟩ (fun _ _ h => h)
     case s17 =>
      intro a w' hoff hg hdep K hK
      obtain ⟨v11, e11, f11⟩ := hdep 11 _ 30 (by kernel_rfl) rfl rfl
      obtain rfl := (f11.2.2.2.2.2.2.2.2.2.2.2.1 rfl).symm
      rw [if_neg (by simp [Region.wanted, yielded, e11])]
      exact hK.out _ _ hg ⟨nn,nn,nn,nn,nn,nn,nn,nn,nn,nn,nn,nn,nn,nn,nn,nn⟩ (fun _ _ h => h)
     case s18 =>
      intro a w' hoff hg hdep K hK
      obtain ⟨v11, e11, f11⟩ := hdep 11 _ 30 (by kernel_rfl) rfl rfl
      obtain rfl := (f11.2.2.2.2.2.2.2.2.2.2.2.1 rfl).symm
      rw [if_neg (by simp [Region.wanted, yielded, e11])]
      exact hK.out _ _ hg ⟨nn,nn,nn,nn,nn,nn,nn,nn,nn,nn,nn,nn,nn,nn,nn,nn⟩ (fun _ _ h => h)
     case s19 =>
      intro a w' hoff hg hdep K hK
      obtain ⟨v11, e11, f11⟩ := hdep 11 _ 30 (by kernel_rfl) rfl rfl
      obtain rfl := (f11.2.2.2.2.2.2.2.2.2.2.2.1 rfl).symm
      rw [if_neg (by simp [Region.wanted, yielded, e11])]
      exact hK.out _ _ hg ⟨nn,nn,nn,nn,nn,nn,nn,nn,nn,nn,nn,nn,nn,nn,nn,nn⟩ (fun _ _ h => h)
     case s20 =>
      intro a w' hoff hg hdep K hK
      obtain ⟨v11, e11, f11⟩ := hdep 11 _ 30 (by kernel_rfl) rfl rfl
      obtain rfl := (f11.2.2.2.2.2.2.2.2.2.2.2.1 rfl).symm
      rw [if_neg (by simp [Region.wanted, yielded, e11])]
      exact hK.out _ _ hg ⟨nn,nn,nn,nn,nn,nn,nn,nn,nn,nn,nn,nn,nn,nn,nn,nn⟩ (fun _ _ h => h)
     case s21 =>
      intro a w' hoff hg hdep K hK
      obtain ⟨v11, e11, f11⟩ := hdep 11 _ 30 (by kernel_rfl) rfl rfl
      obtain rfl := (f11.2.2.2.2.2.2.2.2.2.2.2.1 rfl).symm
      rw [if_neg (by simp [Region.wanted, yielded, e11])]
      exact hK.out _ _ hg ⟨nn,nn,nn,nn,nn,nn,nn,nn,nn,nn,nn,nn,nn,nn,nn,nn⟩ (fun _ _ h => h)
     case s22 =>
      intro a w' hoff hg hdep K hK
      obtain ⟨v11, e11, f11⟩ := hdep 11 _ 30 (by kernel_rfl) rfl rfl
      obtain rfl := (f11.2.2.2.2.2.2.2.2.2.2.2.1 rfl).symm
      rw [if_neg (by simp [Region.wanted, yielded, e11])]
      exact hK.out _ _ hg ⟨nn,nn,nn,nn,nn,nn,nn,nn,nn,nn,nn,nn,nn,nn,nn,nn⟩ (fun _ _ h => h)
     case s23 =>
      intro a w' hoff hg hdep K hK
      obtain ⟨v11, e11, f11⟩ := hdep 11 _ 30 (by kernel_rfl) rfl rfl
      obtain rfl := (f11.2.2.2.2.2.2.2.2.2.2.2.1 rfl).symm
      obtain ⟨v22, e22, f22⟩ := hdep 22 _ 41 (by kernel_rfl) rfl rfl
      rw [if_pos (by rfl)]
      go_simp
      exact hK.out _ _ hg ⟨nn,nn,nn,nn,nn,nn,nn,nn,nn,nn,nn,nn, fun _ => rfl, nn,nn,nn⟩ (fun _ _ h => h)
     case s24 =>
      intro a w' hoff hg hdep K hK
      obtain ⟨v23, e23, f23⟩ := hdep 23 _ 42 (by kernel_rfl) rfl rfl
      obtain rfl := (f23.2.2.2.2.2.2.2.2.2.2.2.2.1 rfl).symm
      rw [if_pos (by rfl)]
      go_simp
      exact hK.out _ _ hg ⟨nn,nn,nn,nn,nn,nn,nn,nn,nn,nn,nn,nn,nn, fun _ => rfl, nn,nn⟩ (fun _ _ h => h)
     case s25 =>
      intro a w' hoff hg hdep K hK
      obtain ⟨v24, e24, f24⟩ := hdep 24 _ 43 (by kernel_rfl) rfl rfl
      obtain rfl := (f24.2.2.2.2.2.2.2.2.2.2.2.2.2.1 rfl).symm
      rw [if_neg (by simp [Region.wanted, yielded, e24])]
      exact hK.out _ _ hg ⟨nn,nn,nn,nn,nn,nn,nn,nn,nn,nn,nn,nn,nn,nn,nn,nn⟩ (fun _ _ h => h)
     case s26 =>
      intro a w' hoff hg hdep K hK
      obtain ⟨v24, e24, f24⟩ := hdep 24 _ 43 (by kernel_rfl) rfl rfl
      obtain rfl := (f24.2.2.2.2.2.2.2.2.2.2.2.2.2.1 rfl).symm
      rw [if_neg (by simp [Region.wanted, yielded, e24])]
      exact hK.out _ _ hg ⟨nn,nn,nn,nn,nn,nn,nn,nn,nn,nn,nn,nn,nn,nn,nn,nn⟩ (fun _ _ h => h)
     case s27 =>
      intro a w' hoff hg hdep K hK
      obtain ⟨v24, e24, f24⟩ := hdep 24 _ 43 (by kernel_rfl) rfl rfl
      obtain rfl := (f24.2.2.2.2.2.2.2.2.2.2.2.2.2.1 rfl).symm
      rw [if_neg (by simp [Region.wanted, yielded, e24])]
      exact hK.out _ _ hg ⟨nn,nn,nn,nn,nn,nn,nn,nn,nn,nn,nn,nn,nn,nn,nn,nn⟩ (fun _ _ h => h)
     case s28 =>
      intro a w' hoff hg hdep K hK
      obtain ⟨v24, e24, f24⟩ := hdep 24 _ 43 (by kernel_rfl) rfl rfl
      obtain rfl := (f24.2.2.2.2.2.2.2.2.2.2.2.2.2.1 rfl).symm
      rw [if_neg (by simp [Region.wanted, yielded, e24])]
      exact hK.out _ _ hg ⟨nn,nn,nn,nn,nn,nn,nn,nn,nn,nn,nn,nn,nn,nn,nn,nn⟩ (fun _ _ h => h)
     case s29 =>
      intro a w' hoff hg hdep K hK
      obtain ⟨v24, e24, f24⟩ := hdep 24 _ 43 (by kernel_rfl) rfl rfl
      obtain rfl := (f24.2.2.2.2.2.2.2.2.2.2.2.2.2.1 rfl).symm
      rw [if_neg (by simp [Region.wanted, yielded, e24])]
      exact hK.out _ _ hg ⟨nn,nn,nn,nn,nn,nn,nn,nn,nn,nn,nn,nn,nn,nn,nn,nn⟩ (fun _ _ h => h)
     case s30 =>
      intro a w' hoff hg hdep K hK
      obtain ⟨v24, e24, f24⟩ := hdep 24 _ 43 (by kernel_rfl) rfl rfl
      obtain rfl := (f24.2.2.2.2.2.2.2.2.2.2.2.2.2.1 rfl).symm
      rw [if_neg (by simp [Region.wanted, yielded, e24])]
      exact hK.out _ _ hg ⟨nn,nn,nn,nn,nn,nn,nn,nn,nn,nn,nn,nn,nn,nn,nn,nn⟩ (fun _ _ h => h)
     case s31 =>
      intro a w' hoff hg hdep K hK
      obtain ⟨v24, e24, f24⟩ := hdep 24 _ 43 (by kernel_rfl) rfl rfl
      obtain rfl := (f24.2.2.2.2.2.2.2.2.2.2.2.2.2.1 rfl).symm
      rw [if_neg (by simp [Region.wanted, yielded, e24])]
      exact hK.out _ _ hg ⟨nn,nn,nn,nn,nn,nn,nn,nn,nn,nn,nn,nn,nn,nn,nn,nn⟩ (fun _ _ h => h)
     case s32 =>
      intro a w' hoff hg hdep K hK
      obtain ⟨v24, e24, f24⟩ := hdep 24 _ 43 (by kernel_rfl) rfl rfl
      obtain rfl := (f24.2.2.2.2.2.2.2.2.2.2.2.2.2.1 rfl).symm
      rw [if_neg (by simp [Region.wanted, yielded, e24])]
      exact hK.out _ _ hg ⟨nn,nn,nn,nn,nn,nn,nn,nn,nn,nn,nn,nn,nn,nn,nn,nn⟩ (fun _ _ h => h)
     case s33 =>
      intro a w' hoff hg hdep K hK
      obtain ⟨v24, e24, f24⟩ := hdep 24 _ 43 (by kernel_rfl) rfl rfl
      obtain rfl := (f24.2.2.2.2.2.2.2.2.2.2.2.2.2.1 rfl).symm
      rw [if_neg (by simp [Region.wanted, yielded, e24])]
      exact hK.out _ _ hg ⟨nn,nn,nn,nn,nn,nn,nn,nn,nn,nn,nn,nn,nn,nn,nn,nn⟩ (fun _ _ h => h)
     case s34 =>
      intro a w' hoff hg hdep K hK
      obtain ⟨v24, e24, f24⟩ := hdep 24 _ 43 (by kernel_rfl) rfl rfl
      obtain rfl := (f24.2.2.2.2.2.2.2.2.2.2.2.2.2.1 rfl).symm
      rw [if_neg (by simp [Region.wanted, yielded, e24])]
      exact hK.out _ _ hg ⟨nn,nn,nn,nn,nn,nn,nn,nn,nn,nn,nn,nn,nn,nn,nn,nn⟩ (fun _ _ h => h)
     case s35 =>
      intro a w' hoff hg hdep K hK
      obtain ⟨v24, e24, f24⟩ := hdep 24 _ 43 (by kernel_rfl) rfl rfl
      obtain rfl := (f24.2.2.2.2.2.2.2.2.2.2.2.2.2.1 rfl).symm
      rw [if_neg (by simp [Region.wanted, yielded, e24])]
      exact hK.out _ _ hg ⟨nn,nn,nn,nn,nn,nn,nn,nn,nn,nn,nn,nn,nn,nn,nn,nn⟩ (fun _ _ h => h)
     case s36 =>
      intro a w' hoff hg hdep K hK
      obtain ⟨v24, e24, f24⟩ := hdep 24 _ 43 (by kernel_rfl) rfl rfl
      obtain rfl := (f24.2.2.2.2.2.2.2.2.2.2.2.2.2.1 rfl).symm
      obtain ⟨v35, e35, f35⟩ := hdep 35 _ 54 (by kernel_rfl) rfl rfl
      rw [if_pos (by rfl)]
      go_simp
      exact hK.out _ _ hg ⟨nn,nn,nn,nn,nn,nn,nn,nn,nn,nn,nn,nn,nn,nn, fun _ => rfl, nn⟩ (fun _ _ h => h)
     case s37 =>
      intro a w' hoff hg hdep K hK
      obtain ⟨v36, e36, f36⟩ := hdep 36 _ 55 (by kernel_rfl) rfl rfl
      obtain rfl := (f36.2.2.2.2.2.2.2.2.2.2.2.2.2.2.1 rfl).symm
      rw [if_pos (by rfl)]
      go_simp
      exact hK.out _ _ hg ⟨nn,nn,nn,nn,nn,nn,nn,nn,nn,nn,nn,nn,nn,nn,nn, fun _ => rfl⟩ (fun _ _ h => h)
     case fin =>
      intro a w9 hoff hg hf
      obtain ⟨v0, e0, f0⟩ := hf 0 _ 19 rfl rfl
      obtain rfl := (f0.1 rfl).symm
      obtain ⟨v1, e1, f1⟩ := hf 1 _ 20 rfl rfl
      obtain rfl := (f1.2.1 rfl).symm
      obtain ⟨v2, e2, f2⟩ := hf 2 _ 21 rfl rfl
      obtain rfl := (f2.2.2.1 rfl).symm
      obtain ⟨v3, e3, f3⟩ := hf 3 _ 22 rfl rfl
      obtain rfl := (f3.2.2.2.1 rfl).symm
      obtain ⟨v4, e4, f4⟩ := hf 4 _ 23 rfl rfl
      obtain rfl := (f4.2.2.2.2.1 rfl).symm
      obtain ⟨v5, e5, f5⟩ := hf 5 _ 24 rfl rfl
      obtain rfl := (f5.2.2.2.2.2.1 rfl).symm
      obtain ⟨v6, e6, f6⟩ := hf 6 _ 25 rfl rfl
      obtain rfl := (f6.2.2.2.2.2.2.1 rfl).symm
      obtain ⟨v7, e7, f7⟩ := hf 7 _ 26 rfl rfl
      obtain rfl := (f7.2.2.2.2.2.2.2.1 rfl).symm
      obtain ⟨v8, e8, f8⟩ := hf 8 _ 27 rfl rfl
      obtain rfl := (f8.2.2.2.2.2.2.2.2.1 rfl).symm
      obtain ⟨v9, e9, f9⟩ := hf 9 _ 28 rfl rfl
      obtain rfl := (f9.2.2.2.2.2.2.2.2.2.1 rfl).symm
      obtain ⟨v10, e10, f10⟩ := hf 10 _ 29 rfl rfl
      obtain rfl := (f10.2.2.2.2.2.2.2.2.2.2.1 rfl).symm
      obtain ⟨v11, e11, f11⟩ := hf 11 _ 30 rfl rfl
      obtain rfl := (f11.2.2.2.2.2.2.2.2.2.2.2.1 rfl).symm
      obtain ⟨v12, e12, f12⟩ := hf 12 _ 31 rfl rfl
      obtain ⟨v13, e13, f13⟩ := hf 13 _ 32 rfl rfl
      obtain ⟨v14, e14, f14⟩ := hf 14 _ 33 rfl rfl
      obtain ⟨v15, e15, f15⟩ := hf 15 _ 34 rfl rfl
      obtain ⟨v16, e16, f16⟩ := hf 16 _ 35 rfl rfl
      obtain ⟨v17, e17, f17⟩ := hf 17 _ 36 rfl rfl
      obtain ⟨v18, e18, f18⟩ := hf 18 _ 37 rfl rfl
      obtain ⟨v19, e19, f19⟩ := hf 19 _ 38 rfl rfl
      obtain ⟨v20, e20, f20⟩ := hf 20 _ 39 rfl rfl
      obtain ⟨v21, e21, f21⟩ := hf 21 _ 40 rfl rfl
      obtain ⟨v22, e22, f22⟩ := hf 22 _ 41 rfl rfl
      obtain ⟨v23, e23, f23⟩ := hf 23 _ 42 rfl rfl
      obtain rfl := (f23.2.2.2.2.2.2.2.2.2.2.2.2.1 rfl).symm
      obtain ⟨v24, e24, f24⟩ := hf 24 _ 43 rfl rfl
      obtain rfl := (f24.2.2.2.2.2.2.2.2.2.2.2.2.2.1 rfl).symm
      obtain ⟨v25, e25, f25⟩ := hf 25 _ 44 rfl rfl
      obtain ⟨v26, e26, f26⟩ := hf 26 _ 45 rfl rfl
      obtain ⟨v27, e27, f27⟩ := hf 27 _ 46 rfl rfl
      obtain ⟨v28, e28, f28⟩ := hf 28 _ 47 rfl rfl
      obtain ⟨v29, e29, f29⟩ := hf 29 _ 48 rfl rfl
      obtain ⟨v30, e30, f30⟩ := hf 30 _ 49 rfl rfl
      obtain ⟨v31, e31, f31⟩ := hf 31 _ 50 rfl rfl
      obtain ⟨v32, e32, f32⟩ := hf 32 _ 51 rfl rfl
      obtain ⟨v33, e33, f33⟩ := hf 33 _ 52 rfl rfl
      obtain ⟨v34, e34, f34⟩ := hf 34 _ 53 rfl rfl
      obtain ⟨v35, e35, f35⟩ := hf 35 _ 54 rfl rfl
      obtain ⟨v36, e36, f36⟩ := hf 36 _ 55 rfl rfl
      obtain rfl := (f36.2.2.2.2.2.2.2.2.2.2.2.2.2.2.1 rfl).symm
      obtain ⟨v37, e37, f37⟩ := hf 37 _ 6 rfl rfl
      obtain rfl := (f37.2.2.2.2.2.2.2.2.2.2.2.2.2.2.2 rfl).symm
      rw [hoff.sets [(19, .slice (some ⟨lb, lo, none⟩) l.length ac), (20, .int .i64 (k : Int)), (21, .pointer (some ⟨lb, lo + k * 7, none⟩)), (22, .pointer (some ⟨lb, lo + k * 7, none⟩)), (23, .int .i64 x.kind), (24, .slice (some ⟨mb, mo, none⟩) m.length bc), (25, .int .i64 (k : Int)), (26, .pointer (some ⟨mb, mo + k * 7, none⟩)), (27, .pointer (some ⟨mb, mo + k * 7, none⟩)), (28, .int .i64 y.kind), (29, .bool false), (30, .bool false), (31, v12), (32, v13), (33, v14), (34, v15), (35, v16), (36, v17), (37, v18), (38, v19), (39, v20), (40, v21), (41, v22), (42, .bool false), (43, .bool false), (44, v25), (45, v26), (46, v27), (47, v28), (48, v29), (49, v30), (50, v31), (51, v32), (52, v33), (53, v34), (54, v35), (55, .bool false), (6, .bool false)] (by kernel_rfl) (by intro p hp; simp only [List.mem_cons, List.not_mem_nil, or_false] at hp; rcases hp with rfl | rfl | rfl | rfl | rfl | rfl | rfl | rfl | rfl | rfl | rfl | rfl | rfl | rfl | rfl | rfl | rfl | rfl | rfl | rfl | rfl | rfl | rfl | rfl | rfl | rfl | rfl | rfl | rfl | rfl | rfl | rfl | rfl | rfl | rfl | rfl | rfl | rfl <;> assumption)]
      clear hoff hf e0 f0 e1 f1 e2 f2 e3 f3 e4 f4 e5 f5 e6 f6 e7 f7 e8 f8 e9 f9 e10 f10 e11 f11 e12 f12 e13 f13 e14 f14 e15 f15 e16 f16 e17 f17 e18 f18 e19 f19 e20 f20 e21 f21 e22 f22 e23 f23 e24 f24 e25 f25 e26 f26 e27 f27 e28 f28 e29 f29 e30 f30 e31 f31 e32 f32 e33 f33 e34 f34 e35 f35 e36 f36 e37 f37
      simp only [List.foldl_cons, List.foldl_nil, List.setIfInBounds_toArray, List.set_cons_zero, List.set_cons_succ]
      have HG9 := Lib.hid hg
      clear hg
      go_wp2_with fail
      refine wp_region_factsG (by rfl) 73 (by rfl) (by kernel_rfl) (fun wz iz vz => (iz = 0 → vz = .slice (some ⟨lb, lo, none⟩) l.length ac) ∧ (iz = 1 → vz = .int .i64 (k : Int)) ∧ (iz = 2 → vz = .pointer (some ⟨lb, lo + k * 7, none⟩)) ∧ (iz = 3 → vz = .pointer (some ⟨lb, lo + k * 7 + 6, none⟩)) ∧ (iz = 4 → vz = .slice xa x.args.length xd) ∧ (iz = 5 → vz = .slice (some ⟨mb, mo, none⟩) m.length bc) ∧ (iz = 6 → vz = .int .i64 (k : Int)) ∧ (iz = 7 → vz = .pointer (some ⟨mb, mo + k * 7, none⟩)) ∧ (iz = 8 → vz = .pointer (some ⟨mb, mo + k * 7 + 6, none⟩)) ∧ (iz = 9 → vz = .slice ya y.args.length yd) ∧ (iz = 10 → vz = .bool v2) ∧ (iz = 11 → vz = .bool v2)) (fun w' => Below w9.heap.size w9 w') (Below.drew (Below.refl _ _)) ⟨?s0, ?s1, ?s2, ?s3, ?s4, ?s5, ?s6, ?s7, ?s8, ?s9, ?s10, ?s11, trivial⟩ ?fin
      case s0 =>
       intro a w' hoff hg hdep K hK
       have h0 := off_at hoff 0 (v := .slice (some ⟨lb, lo, none⟩) l.length ac) (by kernel_rfl) rfl
       rw [if_pos (by rfl)]
       go_simp
       exact hK.out _ _ hg ⟨fun _ => rfl, nn,nn,nn,nn,nn,nn,nn,nn,nn,nn,nn⟩ (fun _ _ h => h)
      case s1 =>
       intro a w' hoff hg hdep K hK
       have h5 := off_at hoff 5 (v := .int .i64 (k : Int)) (by kernel_rfl) rfl
       rw [if_pos (by rfl)]
       go_simp
       exact hK.out _ _ hg ⟨nn, fun _ => rfl, nn,nn,nn,nn,nn,nn,nn,nn,nn,nn⟩ (fun _ _ h => h)
      case s2 =>
       intro a w' hoff hg hdep K hK
       obtain ⟨v0, e0, f0⟩ := hdep 0 _ 56 (by kernel_rfl) rfl rfl
       obtain rfl := (f0.1 rfl).symm
       obtain ⟨v1, e1, f1⟩ := hdep 1 _ 57 (by kernel_rfl) rfl rfl
       obtain rfl := (f1.2.1 rfl).symm
       have hk1 := HK1.out; have hk2 := HK2.out
       rw [if_pos (by rfl)]
       go_simp
       exact hK.out _ _ hg ⟨nn,nn, fun _ => rfl, nn,nn,nn,nn,nn,nn,nn,nn,nn⟩ (fun _ _ h => h)
      case s3 =>
       intro a w' hoff hg hdep K hK
       obtain ⟨v2, e2, f2⟩ := hdep 2 _ 58 (by kernel_rfl) rfl rfl
       obtain rfl := (f2.2.2.1 rfl).symm
       rw [if_pos (by rfl)]
       go_simp
       exact hK.out _ _ hg ⟨nn,nn,nn, fun _ => rfl, nn,nn,nn,nn,nn,nn,nn,nn⟩ (fun _ _ h => h)
      case s4 =>
       intro a w' hoff hg hdep K hK
       obtain ⟨v3, e3, f3⟩ := hdep 3 _ 59 (by kernel_rfl) rfl rfl
       obtain rfl := (f3.2.2.2.1 rfl).symm
       rw [if_pos (by rfl)]
       have q0 := ((Below.step HG9.out hg).cell (p := ⟨lb, lo + k * 7, none⟩) HLB.out).trans Q0.out; have q1 := ((Below.step HG9.out hg).cell (p := ⟨lb, lo + k * 7 + 1, none⟩) HLB.out).trans Q1.out; have q2 := ((Below.step HG9.out hg).cell (p := ⟨lb, lo + k * 7 + 2, none⟩) HLB.out).trans Q2.out; have q3 := ((Below.step HG9.out hg).cell (p := ⟨lb, lo + k * 7 + 3, none⟩) HLB.out).trans Q3.out; have q4 := ((Below.step HG9.out hg).cell (p := ⟨lb, lo + k * 7 + 4, none⟩) HLB.out).trans Q4.out; have q5 := ((Below.step HG9.out hg).cell (p := ⟨lb, lo + k * 7 + 5, none⟩) HLB.out).trans Q5.out; have q6 := ((Below.step HG9.out hg).cell (p := ⟨lb, lo + k * 7 + 6, none⟩) HLB.out).trans Q6.out; have p0 := ((Below.step HG9.out hg).cell (p := ⟨mb, mo + k * 7, none⟩) HMB.out).trans P0.out; have p1 := ((Below.step HG9.out hg).cell (p := ⟨mb, mo + k * 7 + 1, none⟩) HMB.out).trans P1.out; have p2 := ((Below.step HG9.out hg).cell (p := ⟨mb, mo + k * 7 + 2, none⟩) HMB.out).trans P2.out; have p3 := ((Below.step HG9.out hg).cell (p := ⟨mb, mo + k * 7 + 3, none⟩) HMB.out).trans P3.out; have p4 := ((Below.step HG9.out hg).cell (p := ⟨mb, mo + k * 7 + 4, none⟩) HMB.out).trans P4.out; have p5 := ((Below.step HG9.out hg).cell (p := ⟨mb, mo + k * 7 + 5, none⟩) HMB.out).trans P5.out; have p6 := ((Below.step HG9.out hg).cell (p := ⟨mb, mo + k * 7 + 6, none⟩) HMB.out).trans P6.out
       go_simp
       exact hK.out _ _ hg ⟨nn,nn,nn,nn, fun _ => rfl, nn,nn,nn,nn,nn,nn,nn⟩ (fun _ _ h => h)
      case s5 =>
       intro a w' hoff hg hdep K hK
       have h1 := off_at hoff 1 (v := .slice (some ⟨mb, mo, none⟩) m.length bc) (by kernel_rfl) rfl
       rw [if_pos (by rfl)]
       go_simp
       exact hK.out _ _ hg ⟨nn,nn,nn,nn,nn, fun _ => rfl, nn,nn,nn,nn,nn,nn⟩ (fun _ _ h => h)
      case s6 =>
       intro a w' hoff hg hdep K hK
       have h5 := off_at hoff 5 (v := .int .i64 (k : Int)) (by kernel_rfl) rfl
       rw [if_pos (by rfl)]
       go_simp
       exact hK.out _ _ hg ⟨nn,nn,nn,nn,nn,nn, fun _ => rfl, nn,nn,nn,nn,nn⟩ (fun _ _ h => h)
      case s7 =>
       intro a w' hoff hg hdep K hK
       obtain ⟨v5, e5, f5⟩ := hdep 5 _ 61 (by kernel_rfl) rfl rfl
       obtain rfl := (f5.2.2.2.2.2.1 rfl).symm
       obtain ⟨v6, e6, f6⟩ := hdep 6 _ 62 (by kernel_rfl) rfl rfl
       obtain rfl := (f6.2.2.2.2.2.2.1 rfl).symm
       have hk1 := HK1.out; have hk3 := HK3.out
       rw [if_pos (by rfl)]
       go_simp
       exact hK.out _ _ hg ⟨nn,nn,nn,nn,nn,nn,nn, fun _ => rfl, nn,nn,nn,nn⟩ (fun _ _ h => h)
      case s8 =>
       intro a w' hoff hg hdep K hK
       obtain ⟨v7, e7, f7⟩ := hdep 7 _ 63 (by kernel_rfl) rfl rfl
       obtain rfl := (f7.2.2.2.2.2.2.2.1 rfl).symm
       rw [if_pos (by rfl)]
       go_simp
       exact hK.out _ _ hg ⟨nn,nn,nn,nn,nn,nn,nn,nn, fun _ => rfl, nn,nn,nn⟩ (fun _ _ h => h)
      case s9 =>
       intro a w' hoff hg hdep K hK
       obtain ⟨v8, e8, f8⟩ := hdep 8 _ 64 (by kernel_rfl) rfl rfl
       obtain rfl := (f8.2.2.2.2.2.2.2.2.1 rfl).symm
       rw [if_pos (by rfl)]
       have q0 := ((Below.step HG9.out hg).cell (p := ⟨lb, lo + k * 7, none⟩) HLB.out).trans Q0.out; have q1 := ((Below.step HG9.out hg).cell (p := ⟨lb, lo + k * 7 + 1, none⟩) HLB.out).trans Q1.out; have q2 := ((Below.step HG9.out hg).cell (p := ⟨lb, lo + k * 7 + 2, none⟩) HLB.out).trans Q2.out; have q3 := ((Below.step HG9.out hg).cell (p := ⟨lb, lo + k * 7 + 3, none⟩) HLB.out).trans Q3.out; have q4 := ((Below.step HG9.out hg).cell (p := ⟨lb, lo + k * 7 + 4, none⟩) HLB.out).trans Q4.out; have q5 := ((Below.step HG9.out hg).cell (p := ⟨lb, lo + k * 7 + 5, none⟩) HLB.out).trans Q5.out; have q6 := ((Below.step HG9.out hg).cell (p := ⟨lb, lo + k * 7 + 6, none⟩) HLB.out).trans Q6.out; have p0 := ((Below.step HG9.out hg).cell (p := ⟨mb, mo + k * 7, none⟩) HMB.out).trans P0.out; have p1 := ((Below.step HG9.out hg).cell (p := ⟨mb, mo + k * 7 + 1, none⟩) HMB.out).trans P1.out; have p2 := ((Below.step HG9.out hg).cell (p := ⟨mb, mo + k * 7 + 2, none⟩) HMB.out).trans P2.out; have p3 := ((Below.step HG9.out hg).cell (p := ⟨mb, mo + k * 7 + 3, none⟩) HMB.out).trans P3.out; have p4 := ((Below.step HG9.out hg).cell (p := ⟨mb, mo + k * 7 + 4, none⟩) HMB.out).trans P4.out; have p5 := ((Below.step HG9.out hg).cell (p := ⟨mb, mo + k * 7 + 5, none⟩) HMB.out).trans P5.out; have p6 := ((Below.step HG9.out hg).cell (p := ⟨mb, mo + k * 7 + 6, none⟩) HMB.out).trans P6.out
       go_simp
       exact hK.out _ _ hg ⟨nn,nn,nn,nn,nn,nn,nn,nn,nn, fun _ => rfl, nn,nn⟩ (fun _ _ h => h)
      case s10 =>
       intro a w' hoff hg hdep K hK
       obtain ⟨v4, e4, f4⟩ := hdep 4 _ 60 (by kernel_rfl) rfl rfl
       obtain rfl := (f4.2.2.2.2.1 rfl).symm
       obtain ⟨v9, e9, f9⟩ := hdep 9 _ 65 (by kernel_rfl) rfl rfl
       obtain rfl := (f9.2.2.2.2.2.2.2.2.2.1 rfl).symm
       rw [if_pos (by rfl)]
       go_simp
       refine (HIH.out x (HXM.out) y.args S w' _ _ (fun j hj => Nat.lt_of_lt_of_le (HSR.out j hj) (Below.step HG9.out hg).size) (RepMs.on (fun _ h => h) (fun j hj => (Below.step HG9.out hg).block j (HSR.out j hj)) GX.out.lst) (RepMs.on (fun _ h => h) (fun j hj => (Below.step HG9.out hg).block j (HSR.out j hj)) GY.out.lst)).mono ?_
       rw [HV2.out]
       rintro e w2' ⟨rfl, hb⟩
       exact hK.out _ _ (Below.step hg hb) ⟨nn,nn,nn,nn,nn,nn,nn,nn,nn,nn, fun _ => rfl, nn⟩ (fun _ _ h => ⟨h.1, h.2.1, h.2.2.1, h.2.2.2.1, h.2.2.2.2.1, h.2.2.2.2.2.1, h.2.2.2.2.2.2.1, h.2.2.2.2.2.2.2.1, h.2.2.2.2.2.2.2.2.1, h.2.2.2.2.2.2.2.2.2.1, h.2.2.2.2.2.2.2.2.2.2.1, h.2.2.2.2.2.2.2.2.2.2.2⟩)
      case s11 =>
       intro a w' hoff hg hdep K hK
       obtain ⟨v10, e10, f10⟩ := hdep 10 _ 66 (by kernel_rfl) rfl rfl
       obtain rfl := (f10.2.2.2.2.2.2.2.2.2.2.1 rfl).symm
       rw [if_pos (by rfl)]
       go_simp
       exact hK.out _ _ hg ⟨nn,nn,nn,nn,nn,nn,nn,nn,nn,nn,nn, fun _ => rfl⟩ (fun _ _ h => h)
      case fin =>
       intro a w10 hoff hg hf
       obtain ⟨v0, e0, f0⟩ := hf 0 _ 56 rfl rfl
       obtain rfl := (f0.1 rfl).symm
       obtain ⟨v1, e1, f1⟩ := hf 1 _ 57 rfl rfl
       obtain rfl := (f1.2.1 rfl).symm
       obtain ⟨v2, e2, f2⟩ := hf 2 _ 58 rfl rfl
       obtain rfl := (f2.2.2.1 rfl).symm
       obtain ⟨v3, e3, f3⟩ := hf 3 _ 59 rfl rfl
       obtain rfl := (f3.2.2.2.1 rfl).symm
       obtain ⟨v4, e4, f4⟩ := hf 4 _ 60 rfl rfl
       obtain rfl := (f4.2.2.2.2.1 rfl).symm
       obtain ⟨v5, e5, f5⟩ := hf 5 _ 61 rfl rfl
       obtain rfl := (f5.2.2.2.2.2.1 rfl).symm
       obtain ⟨v6, e6, f6⟩ := hf 6 _ 62 rfl rfl
       obtain rfl := (f6.2.2.2.2.2.2.1 rfl).symm
       obtain ⟨v7, e7, f7⟩ := hf 7 _ 63 rfl rfl
       obtain rfl := (f7.2.2.2.2.2.2.2.1 rfl).symm
       obtain ⟨v8, e8, f8⟩ := hf 8 _ 64 rfl rfl
       obtain rfl := (f8.2.2.2.2.2.2.2.2.1 rfl).symm
       obtain ⟨v9, e9, f9⟩ := hf 9 _ 65 rfl rfl
       obtain rfl := (f9.2.2.2.2.2.2.2.2.2.1 rfl).symm
       obtain ⟨v10, e10, f10⟩ := hf 10 _ 66 rfl rfl
       obtain rfl := (f10.2.2.2.2.2.2.2.2.2.2.1 rfl).symm
       obtain ⟨v11, e11, f11⟩ := hf 11 _ 7 rfl rfl
       obtain rfl := (f11.2.2.2.2.2.2.2.2.2.2.2 rfl).symm
       rw [hoff.sets [(56, .slice (some ⟨lb, lo, none⟩) l.length ac), (57, .int .i64 (k : Int)), (58, .pointer (some ⟨lb, lo + k * 7, none⟩)), (59, .pointer (some ⟨lb, lo + k * 7 + 6, none⟩)), (60, .slice xa x.args.length xd), (61, .slice (some ⟨mb, mo, none⟩) m.length bc), (62, .int .i64 (k : Int)), (63, .pointer (some ⟨mb, mo + k * 7, none⟩)), (64, .pointer (some ⟨mb, mo + k * 7 + 6, none⟩)), (65, .slice ya y.args.length yd), (66, .bool v2), (7, .bool v2)] (by kernel_rfl) (by intro p hp; simp only [List.mem_cons, List.not_mem_nil, or_false] at hp; rcases hp with rfl | rfl | rfl | rfl | rfl | rfl | rfl | rfl | rfl | rfl | rfl | rfl <;> assumption)]
       clear hoff hf e0 f0 e1 f1 e2 f2 e3 f3 e4 f4 e5 f5 e6 f6 e7 f7 e8 f8 e9 f9 e10 f10 e11 f11
       simp only [List.foldl_cons, List.foldl_nil, List.setIfInBounds_toArray, List.set_cons_zero, List.set_cons_succ]
       have HB10 := Lib.hid (Below.step HBEL.out (Below.step HG9.out hg))
       clear hg
       go_wp2_with fail
       go_ret
       exact ⟨retB (by rw [eqB_false HF1.out]), HB10.out⟩
   ·have HF1 : Hid (l = m) := by
     show _
     refine HREC.out.2 ?_
     rw [List.drop_of_length_le (by omega), List.drop_of_length_le (by have := HNEQ.out; omega)]
    go_wp2_with fail
    go_ret
    exact ⟨retB (by rw [eqB_true HF1.out]), hbel⟩
 ·have hn' : ((l.length : Int) != (m.length : Int)) = true := by simp; omega
  have HF := Lib.hid (fun e : l = m => hne (congrArg List.length e))
  clear hne
  go_enter Tryz.func26, Tryz.ntmps26
  go_wp2_with fail
  go_ret
  exact ⟨retB (by rw [eqB_false HF.out]), Below.refl _ _⟩
theorem sameTms_any (l m : List Tm) : SameTmsAt l m :=
 sameTms_of l m fun x hx m' => have _h := hx; sameTms_any x.args m'
 termination_by SizeOf.sizeOf l
 decreasing_by
  have h1 := List.sizeOf_lt_of_mem hx
  have h2 : SizeOf.sizeOf x.args < SizeOf.sizeOf x := by cases x; simp only [Tm.args, Tm.mk.sizeOf_spec]; omega
  omega
set_option maxRecDepth 100000 in
set_option maxHeartbeats 16000000 in
theorem sameLis_any (l m : List Li) (S : Nat → Prop) (w : World) (a b : Value) (hS : ∀ k, S k → k < w.heap.size) (ha : RepLis S w l a) (hb : RepLis S w m b) :
  Calls Tryz.prog 27 #[a, b] w fun e w' => e = .returned (.bool (eqB (l = m))) ∧ Below w.heap.size w w' := by
 have HS := Lib.hid hS; have HL := Lib.hid ha; have HM := Lib.hid hb
 have hln : l.length ≤ 140737488355328 := by have := SlG.bytes ha; omega
 obtain ⟨aa, ac, rfl⟩ := SlG.form ha
 obtain ⟨ba, bc, rfl⟩ := SlG.form hb
 clear hS ha hb
 by_cases hne : l.length = m.length
 ·have hn' : ((l.length : Int) != (m.length : Int)) = false := by simp; omega
  have HNEQ := Lib.hid hne
  clear hne
  go_enter Tryz.func27, Tryz.ntmps27
  go_wp2_with fail
  go_loopw [5] (fun i wr => ∃ k : Nat, k ≤ l.length ∧ i = .int .i64 k ∧ Hid (l = m ↔ l.drop k = m.drop k) ∧ Below w.heap.size w wr) (fun i _ => l.length - (intOf i).toNat)
  case atStart => exact ⟨0, Nat.zero_le _, rfl, Iff.rfl, Below.refl _ _⟩
  case round =>
   obtain ⟨k, hk1, rfl, hrec, hbel⟩ := hrel
   have HREC := hrec; have HBEL := Lib.hid hbel
   clear hrec
   by_cases hl : k < l.length
   ·have hm : k < m.length := by have := HNEQ.out; omega
    have hA := (RepLis.on (fun _ h => h) (fun j hj => hbel.block j (HS.out j hj)) HL.out : RepLis S wr l (.slice aa l.length ac))
    have hB := (RepLis.on (fun _ h => h) (fun j hj => hbel.block j (HS.out j hj)) HM.out : RepLis S wr m (.slice ba m.length bc))
    obtain ⟨-, -, lb, lo, xa, xd, hga, hSl, q0, q1, q2, gx⟩ := RepLis.at hA k hl
    obtain ⟨-, -, mb, mo, ya, yd, hgb, hSm, p0, p1, p2, gy⟩ := RepLis.at hB k hm
    obtain rfl := hga
    obtain rfl := hgb
    have HSR := Lib.hid (fun j (hj : S j) => Nat.lt_of_lt_of_le (HS.out j hj) hbel.size)
    have HLB := Lib.hid (HSR.out lb hSl); have HMB := Lib.hid (HSR.out mb hSm)
    have Q0 := Lib.hid q0; have Q1 := Lib.hid q1; have Q2 := Lib.hid q2
    have P0 := Lib.hid p0; have P1 := Lib.hid p1; have P2 := Lib.hid p2
    have GX := Lib.hid gx; have GY := Lib.hid gy
    have HK1 : Hid ((0 : Int) ≤ (k : Int)) := Int.natCast_nonneg k
    have HK2 : Hid ((k : Int) < (l.length : Int)) := by show _ < _; omega
    have HK3 : Hid ((k : Int) < (m.length : Int)) := by show _ < _; omega
    have HDR := Lib.hid (drop_cons hl hm)
    clear hA hB q0 q1 q2 p0 p1 p2 gx gy hSl hSm hbel
    generalize l[k] = x at *
    generalize m[k] = y at *
    have HEX := Lib.hid (li_ext (x := x) (y := y))
    by_cases hke : x.kind = y.kind
    ·by_cases hne : x.name = y.name
     ·cases hv2 : eqB (x.args = y.args) with
      | false =>
       have HKK : Hid ((x.kind != y.kind) = false) := Lib.hid (by simp [hke])
       have HNN : Hid ((x.name.toList == y.name.toList) = true) := Lib.hid (by simp [hne])
       have HV2 : Hid (eqB (x.args = y.args) = false) := hv2
       have HF1 : Hid (¬ l = m) := by
        show ¬ _
        intro e
        exact not_eqB HV2.out (HEX.out.1 (HDR.out.1 (HREC.out.1 e)).1).2.2
       clear hke hne hv2
       go_wp2_with fail
       refine wp_region_factsG (by rfl) 55 (by rfl) (by kernel_rfl) (fun wz iz vz => (iz = 0 → vz = .slice (some ⟨lb, lo, none⟩) l.length ac) ∧ (iz = 1 → vz = .int .i64 (k : Int)) ∧ (iz = 2 → vz = .pointer (some ⟨lb, lo + k * 3, none⟩)) ∧ (iz = 3 → vz = .pointer (some ⟨lb, lo + k * 3, none⟩)) ∧ (iz = 4 → vz = .int .i64 x.kind) ∧ (iz = 5 → vz = .slice (some ⟨mb, mo, none⟩) m.length bc) ∧ (iz = 6 → vz = .int .i64 (k : Int)) ∧ (iz = 7 → vz = .pointer (some ⟨mb, mo + k * 3, none⟩)) ∧ (iz = 8 → vz = .pointer (some ⟨mb, mo + k * 3, none⟩)) ∧ (iz = 9 → vz = .int .i64 y.kind) ∧ (iz = 10 → vz = .bool false) ∧ (iz = 11 → vz = .bool false) ∧ (iz = 12 → vz = .slice (some ⟨lb, lo, none⟩) l.length ac) ∧ (iz = 13 → vz = .int .i64 (k : Int)) ∧ (iz = 14 → vz = .pointer (some ⟨lb, lo + k * 3, none⟩)) ∧ (iz = 15 → vz = .pointer (some ⟨lb, lo + k * 3 + 1, none⟩)) ∧ (iz = 16 → vz = .string x.name) ∧ (iz = 17 → vz = .slice (some ⟨mb, mo, none⟩) m.length bc) ∧ (iz = 18 → vz = .int .i64 (k : Int)) ∧ (iz = 19 → vz = .pointer (some ⟨mb, mo + k * 3, none⟩)) ∧ (iz = 20 → vz = .pointer (some ⟨mb, mo + k * 3 + 1, none⟩)) ∧ (iz = 21 → vz = .string y.name) ∧ (iz = 22 → vz = .bool false) ∧ (iz = 23 → vz = .bool false) ∧ (iz = 24 → vz = .bool false) ∧ (iz = 25 → vz = .slice (some ⟨lb, lo, none⟩) l.length ac) ∧ (iz = 26 → vz = .int .i64 (k : Int)) ∧ (iz = 27 → vz = .pointer (some ⟨lb, lo + k * 3, none⟩)) ∧ (iz = 28 → vz = .pointer (some ⟨lb, lo + k * 3 + 2, none⟩)) ∧ (iz = 29 → vz = .slice xa x.args.length xd) ∧ (iz = 30 → vz = .slice (some ⟨mb, mo, none⟩) m.length bc) ∧ (iz = 31 → vz = .int .i64 (k : Int)) ∧ (iz = 32 → vz = .pointer (some ⟨mb, mo + k * 3, none⟩)) ∧ (iz = 33 → vz = .pointer (some ⟨mb, mo + k * 3 + 2, none⟩)) ∧ (iz = 34 → vz = .slice ya y.args.length yd) ∧ (iz = 35 → vz = .bool false) ∧ (iz = 36 → vz = .bool true) ∧ (iz = 37 → vz = .bool true)) (fun w' => Below wr.heap.size wr w') (Below.drew (Below.refl _ _)) ⟨?s0, ?s1, ?s2, ?s3, ?s4, ?s5, ?s6, ?s7, ?s8, ?s9, ?s10, ?s11, ?s12, ?s13, ?s14, ?s15, ?s16, ?s17, ?s18, ?s19, ?s20, ?s21, ?s22, ?s23, ?s24, ?s25, ?s26, ?s27, ?s28, ?s29, ?s30, ?s31, ?s32, ?s33, ?s34, ?s35, ?s36, ?s37, trivial⟩ ?fin
       case s0 =>
        intro a w' hoff hg hdep K hK
        have h0 := off_at hoff 0 (v := .slice (some ⟨lb, lo, none⟩) l.length ac) (by kernel_rfl) rfl
        rw [if_pos (by rfl)]
        go_simp
        exact hK.out _ _ hg ⟨fun _ => rfl, nn,nn,nn,nn,nn,nn,nn,nn,nn,nn,nn,nn,nn,nn,nn,nn,nn,nn,nn,nn,nn,nn,nn,nn,nn,nn,nn,nn,nn,nn,nn,nn,nn,nn,nn,nn,nn⟩ (fun _ _ h => h)
       case s1 =>
        intro a w' hoff hg hdep K hK
        have h5 := off_at hoff 5 (v := .int .i64 (k : Int)) (by kernel_rfl) rfl
        rw [if_pos (by rfl)]
        go_simp
        exact hK.out _ _ hg ⟨nn, fun _ => rfl, nn,nn,nn,nn,nn,nn,nn,nn,nn,nn,nn,nn,nn,nn,nn,nn,nn,nn,nn,nn,nn,nn,nn,nn,nn,nn,nn,nn,nn,nn,nn,nn,nn,nn,nn,nn⟩ (fun _ _ h => h)
       case s2 =>
        intro a w' hoff hg hdep K hK
        obtain ⟨v0, e0, f0⟩ := hdep 0 _ 17 (by kernel_rfl) rfl rfl
        obtain rfl := (f0.1 rfl).symm
        obtain ⟨v1, e1, f1⟩ := hdep 1 _ 18 (by kernel_rfl) rfl rfl
        obtain rfl := (f1.2.1 rfl).symm
        have hk1 := HK1.out; have hk2 := HK2.out
        rw [if_pos (by rfl)]
        go_simp
        exact hK.out _ _ hg ⟨nn,nn, fun _ => rfl, nn,nn,nn,nn,nn,nn,nn,nn,nn,nn,nn,nn,nn,nn,nn,nn,nn,nn,nn,nn,nn,nn,nn,nn,nn,nn,nn,nn,nn,nn,nn,nn,nn,nn,nn⟩ (fun _ _ h => h)
       case s3 =>
        intro a w' hoff hg hdep K hK
        obtain ⟨v2, e2, f2⟩ := hdep 2 _ 19 (by kernel_rfl) rfl rfl
        obtain rfl := (f2.2.2.1 rfl).symm
        rw [if_pos (by rfl)]
        go_simp
        exact hK.out _ _ hg ⟨nn,nn,nn, fun _ => rfl, nn,nn,nn,nn,nn,nn,nn,nn,nn,nn,nn,nn,nn,nn,nn,nn,nn,nn,nn,nn,nn,nn,nn,nn,nn,nn,nn,nn,nn,nn,nn,nn,nn,nn⟩ (fun _ _ h => h)
       case s4 =>
        intro a w' hoff hg hdep K hK
        obtain ⟨v3, e3, f3⟩ := hdep 3 _ 20 (by kernel_rfl) rfl rfl
        obtain rfl := (f3.2.2.2.1 rfl).symm
        rw [if_pos (by rfl)]
        have q0 := (hg.cell (p := ⟨lb, lo + k * 3, none⟩) HLB.out).trans Q0.out; have q1 := (hg.cell (p := ⟨lb, lo + k * 3 + 1, none⟩) HLB.out).trans Q1.out; have q2 := (hg.cell (p := ⟨lb, lo + k * 3 + 2, none⟩) HLB.out).trans Q2.out; have p0 := (hg.cell (p := ⟨mb, mo + k * 3, none⟩) HMB.out).trans P0.out; have p1 := (hg.cell (p := ⟨mb, mo + k * 3 + 1, none⟩) HMB.out).trans P1.out; have p2 := (hg.cell (p := ⟨mb, mo + k * 3 + 2, none⟩) HMB.out).trans P2.out
        go_simp
        exact hK.out _ _ hg ⟨nn,nn,nn,nn, fun _ => rfl, nn,nn,nn,nn,nn,nn,nn,nn,nn,nn,nn,nn,nn,nn,nn,nn,nn,nn,nn,nn,nn,nn,nn,nn,nn,nn,nn,nn,nn,nn,nn,nn,nn⟩ (fun _ _ h => h)
       case s5 =>
        intro a w' hoff hg hdep K hK
        have h1 := off_at hoff 1 (v := .slice (some ⟨mb, mo, none⟩) m.length bc) (by kernel_rfl) rfl
        rw [if_pos (by rfl)]
        go_simp
        exact hK.out _ _ hg ⟨nn,nn,nn,nn,nn, fun _ => rfl, nn,nn,nn,nn,nn,nn,nn,nn,nn,nn,nn,nn,nn,nn,nn,nn,nn,nn,nn,nn,nn,nn,nn,nn,nn,nn,nn,nn,nn,nn,nn,nn⟩ (fun _ _ h => h)
       case s6 =>
        intro a w' hoff hg hdep K hK
        have h5 := off_at hoff 5 (v := .int .i64 (k : Int)) (by kernel_rfl) rfl
        rw [if_pos (by rfl)]
        go_simp
        exact hK.out _ _ hg ⟨nn,nn,nn,nn,nn,nn, fun _ => rfl, nn,nn,nn,nn,nn,nn,nn,nn,nn,nn,nn,nn,nn,nn,nn,nn,nn,nn,nn,nn,nn,nn,nn,nn,nn,nn,nn,nn,nn,nn,nn⟩ (fun _ _ h => h)
       case s7 =>
        intro a w' hoff hg hdep K hK
        obtain ⟨v5, e5, f5⟩ := hdep 5 _ 22 (by kernel_rfl) rfl rfl
        obtain rfl := (f5.2.2.2.2.2.1 rfl).symm
        obtain ⟨v6, e6, f6⟩ := hdep 6 _ 23 (by kernel_rfl) rfl rfl
        obtain rfl := (f6.2.2.2.2.2.2.1 rfl).symm
        have hk1 := HK1.out; have hk3 := HK3.out
        rw [if_pos (by rfl)]
        go_simp
        exact hK.out _ _ hg ⟨nn,nn,nn,nn,nn,nn,nn, fun _ => rfl, nn,nn,nn,nn,nn,nn,nn,nn,nn,nn,nn,nn,nn,nn,nn,nn,nn,nn,nn,nn,nn,nn,nn,nn,nn,nn,nn,nn,nn,nn⟩ (fun _ _ h => h)
       case s8 =>
        intro a w' hoff hg hdep K hK
        obtain ⟨v7, e7, f7⟩ := hdep 7 _ 24 (by kernel_rfl) rfl rfl
        obtain rfl := (f7.2.2.2.2.2.2.2.1 rfl).symm
        rw [if_pos (by rfl)]
        go_simp
        exact hK.out _ _ hg ⟨nn,nn,nn,nn,nn,nn,nn,nn, fun _ => rfl, nn,nn,nn,nn,nn,nn,nn,nn,nn,nn,nn,nn,nn,nn,nn,nn,nn,nn,nn,nn,nn,nn,nn,nn,nn,nn,nn,nn,nn⟩ (fun _ _ h => h)
       case s9 =>
        intro a w' hoff hg hdep K hK
        obtain ⟨v8, e8, f8⟩ := hdep 8 _ 25 (by kernel_rfl) rfl rfl
        obtain rfl := (f8.2.2.2.2.2.2.2.2.1 rfl).symm
        rw [if_pos (by rfl)]
        have q0 := (hg.cell (p := ⟨lb, lo + k * 3, none⟩) HLB.out).trans Q0.out; have q1 := (hg.cell (p := ⟨lb, lo + k * 3 + 1, none⟩) HLB.out).trans Q1.out; have q2 := (hg.cell (p := ⟨lb, lo + k * 3 + 2, none⟩) HLB.out).trans Q2.out; have p0 := (hg.cell (p := ⟨mb, mo + k * 3, none⟩) HMB.out).trans P0.out; have p1 := (hg.cell (p := ⟨mb, mo + k * 3 + 1, none⟩) HMB.out).trans P1.out; have p2 := (hg.cell (p := ⟨mb, mo + k * 3 + 2, none⟩) HMB.out).trans P2.out
        go_simp
        exact hK.out _ _ hg ⟨nn,nn,nn,nn,nn,nn,nn,nn,nn, fun _ => rfl, nn,nn,nn,nn,nn,nn,nn,nn,nn,nn,nn,nn,nn,nn,nn,nn,nn,nn,nn,nn,nn,nn,nn,nn,nn,nn,nn,nn⟩ (fun _ _ h => h)
       case s10 =>
        intro a w' hoff hg hdep K hK
        obtain ⟨v4, e4, f4⟩ := hdep 4 _ 21 (by kernel_rfl) rfl rfl
        obtain rfl := (f4.2.2.2.2.1 rfl).symm
        obtain ⟨v9, e9, f9⟩ := hdep 9 _ 26 (by kernel_rfl) rfl rfl
        obtain rfl := (f9.2.2.2.2.2.2.2.2.2.1 rfl).symm
        rw [if_pos (by rfl)]
        have hkk := HKK.out
        go_simp
        exact hK.out _ _ hg ⟨nn,nn,nn,nn,nn,nn,nn,nn,nn,nn, fun _ => rfl, nn,nn,nn,nn,nn,nn,nn,nn,nn,nn,nn,nn,nn,nn,nn,nn,nn,nn,nn,nn,nn,nn,nn,nn,nn,nn,nn⟩ (fun _ _ h => h)
       case s11 =>
        intro a w' hoff hg hdep K hK
        obtain ⟨v10, e10, f10⟩ := hdep 10 _ 27 (by kernel_rfl) rfl rfl
        obtain rfl := (f10.2.2.2.2.2.2.2.2.2.2.1 rfl).symm
        rw [if_pos (by rfl)]
        go_simp
        exact hK.out _ _ hg ⟨nn,nn,nn,nn,nn,nn,nn,nn,nn,nn,nn, fun _ => rfl, nn,nn,nn,nn,nn,nn,nn,nn,nn,nn,nn,nn,nn,nn,nn,nn,nn,nn,nn,nn,nn,nn,nn,nn,nn,nn⟩ (fun _ _ h => h)
       case s12 =>
        intro a w' hoff hg hdep K hK
        have h0 := off_at hoff 0 (v := .slice (some ⟨lb, lo, none⟩) l.length ac) (by kernel_rfl) rfl
        obtain ⟨v11, e11, f11⟩ := hdep 11 _ 28 (by kernel_rfl) rfl rfl
        obtain rfl := (f11.2.2.2.2.2.2.2.2.2.2.2.1 rfl).symm
        rw [if_pos (by simp [Region.wanted, yielded, e11])]
        go_simp
        exact hK.out _ _ hg ⟨nn,nn,nn,nn,nn,nn,nn,nn,nn,nn,nn,nn, fun _ => rfl, nn,nn,nn,nn,nn,nn,nn,nn,nn,nn,nn,nn,nn,nn,nn,nn,nn,nn,nn,nn,nn,nn,nn,nn,nn⟩ (fun _ _ h => h)
       case s13 =>
        intro a w' hoff hg hdep K hK
        have h5 := off_at hoff 5 (v := .int .i64 (k : Int)) (by kernel_rfl) rfl
        obtain ⟨v11, e11, f11⟩ := hdep 11 _ 28 (by kernel_rfl) rfl rfl
        obtain rfl := (f11.2.2.2.2.2.2.2.2.2.2.2.1 rfl).symm
        rw [if_pos (by simp [Region.wanted, yielded, e11])]
        go_simp
        exact hK.out _ _ hg ⟨nn,nn,nn,nn,nn,nn,nn,nn,nn,nn,nn,nn,nn, fun _ => rfl, nn,nn,nn,nn,nn,nn,nn,nn,nn,nn,nn,nn,nn,nn,nn,nn,nn,nn,nn,nn,nn,nn,nn,nn⟩ (fun _ _ h => h)
       case s14 =>
        intro a w' hoff hg hdep K hK
        obtain ⟨v12, e12, f12⟩ := hdep 12 _ 29 (by kernel_rfl) rfl rfl
        obtain rfl := (f12.2.2.2.2.2.2.2.2.2.2.2.2.1 rfl).symm
        obtain ⟨v13, e13, f13⟩ := hdep 13 _ 30 (by kernel_rfl) rfl rfl
        obtain rfl := (f13.2.2.2.2.2.2.2.2.2.2.2.2.2.1 rfl).symm
        obtain ⟨v11, e11, f11⟩ := hdep 11 _ 28 (by kernel_rfl) rfl rfl
        obtain rfl := (f11.2.2.2.2.2.2.2.2.2.2.2.1 rfl).symm
        have hk1 := HK1.out; have hk2 := HK2.out
        rw [if_pos (by simp [Region.wanted, yielded, e11])]
        go_simp
        exact hK.out _ _ hg ⟨nn,nn,nn,nn,nn,nn,nn,nn,nn,nn,nn,nn,nn,nn, fun _ => rfl, nn,nn,nn,nn,nn,nn,nn,nn,nn,nn,nn,nn,nn,nn,nn,nn,nn,nn,nn,nn,nn,nn,nn⟩ (fun _ _ h => h)
       case s15 =>
        intro a w' hoff hg hdep K hK
        obtain ⟨v14, e14, f14⟩ := hdep 14 _ 31 (by kernel_rfl) rfl rfl
        obtain rfl := (f14.2.2.2.2.2.2.2.2.2.2.2.2.2.2.1 rfl).symm
        obtain ⟨v11, e11, f11⟩ := hdep 11 _ 28 (by kernel_rfl) rfl rfl
        obtain rfl := (f11.2.2.2.2.2.2.2.2.2.2.2.1 rfl).symm
        rw [if_pos (by simp [Region.wanted, yielded, e11])]
        go_simp
        exact hK.out _ _ hg ⟨nn,nn,nn,nn,nn,nn,nn,nn,nn,nn,nn,nn,nn,nn,nn, fun _ => rfl, nn,nn,nn,nn,nn,nn,nn,nn,nn,nn,nn,nn,nn,nn,nn,nn,nn,nn,nn,nn,nn,nn⟩ (fun _ _ h => h)
       case s16 =>
        intro a w' hoff hg hdep K hK
        obtain ⟨v15, e15, f15⟩ := hdep 15 _ 32 (by kernel_rfl) rfl rfl
        obtain rfl := (f15.2.2.2.2.2.2.2.2.2.2.2.2.2.2.2.1 rfl).symm
        obtain ⟨v11, e11, f11⟩ := hdep 11 _ 28 (by kernel_rfl) rfl rfl
        obtain rfl := (f11.2.2.2.2.2.2.2.2.2.2.2.1 rfl).symm
        rw [if_pos (by simp [Region.wanted, yielded, e11])]
        have q0 := (hg.cell (p := ⟨lb, lo + k * 3, none⟩) HLB.out).trans Q0.out; have q1 := (hg.cell (p := ⟨lb, lo + k * 3 + 1, none⟩) HLB.out).trans Q1.out; have q2 := (hg.cell (p := ⟨lb, lo + k * 3 + 2, none⟩) HLB.out).trans Q2.out; have p0 := (hg.cell (p := ⟨mb, mo + k * 3, none⟩) HMB.out).trans P0.out; have p1 := (hg.cell (p := ⟨mb, mo + k * 3 + 1, none⟩) HMB.out).trans P1.out; have p2 := (hg.cell (p := ⟨mb, mo + k * 3 + 2, none⟩) HMB.out).trans P2.out
        go_simp
        exact hK.out _ _ hg ⟨nn,nn,nn,nn,nn,nn,nn,nn,nn,nn,nn,nn,nn,nn,nn,nn, fun _ => rfl, nn,nn,nn,nn,nn,nn,nn,nn,nn,nn,nn,nn,nn,nn,nn,nn,nn,nn,nn,nn,nn⟩ (fun _ _ h => h)
       case s17 =>
        intro a w' hoff hg hdep K hK
        have h1 := off_at hoff 1 (v := .slice (some ⟨mb, mo, none⟩) m.length bc) (by kernel_rfl) rfl
        obtain ⟨v11, e11, f11⟩ := hdep 11 _ 28 (by kernel_rfl) rfl rfl
        obtain rfl := (f11.2.2.2.2.2.2.2.2.2.2.2.1 rfl).symm
        rw [if_pos (by simp [Region.wanted, yielded, e11])]
        go_simp
        exact hK.out _ _ hg ⟨nn,nn,nn,nn,nn,nn,nn,nn,nn,nn,nn,nn,nn,nn,nn,nn,nn, fun _ => rfl, nn,nn,nn,nn,nn,nn,nn,nn,nn,nn,nn,nn,nn,nn,nn,nn,nn,nn,nn,nn⟩ (fun _ _ h => h)
       case s18 =>
        intro a w' hoff hg hdep K hK
        have h5 := off_at hoff 5 (v := .int .i64 (k : Int)) (by kernel_rfl) rfl
        obtain ⟨v11, e11, f11⟩ := hdep 11 _ 28 (by kernel_rfl) rfl rfl
        obtain rfl := (f11.2.2.2.2.2.2.2.2.2.2.2.1 rfl).symm
        rw [if_pos (by simp [Region.wanted, yielded, e11])]
        go_simp
        exact hK.out _ _ hg ⟨nn,nn,nn,nn,nn,nn,nn,nn,nn,nn,nn,nn,nn,nn,nn,nn,nn,nn, fun _ => rfl, nn,nn,nn,nn,nn,nn,nn,nn,nn,nn,nn,nn,nn,nn,nn,nn,nn,nn,nn⟩ (fun _ _ h => h)
       case s19 =>
        intro a w' hoff hg hdep K hK
        obtain ⟨v17, e17, f17⟩ := hdep 17 _ 34 (by kernel_rfl) rfl rfl
        obtain rfl := (f17.2.2.2.2.2.2.2.2.2.2.2.2.2.2.2.2.2.1 rfl).symm
        obtain ⟨v18, e18, f18⟩ := hdep 18 _ 35 (by kernel_rfl) rfl rfl
        obtain rfl := (f18.2.2.2.2.2.2.2.2.2.2.2.2.2.2.2.2.2.2.1 rfl).symm
        obtain ⟨v11, e11, f11⟩ := hdep 11 _ 28 (by kernel_rfl) rfl rfl
        obtain rfl := (f11.2.2.2.2.2.2.2.2.2.2.2.1 rfl).symm
        have hk1 := HK1.out; have hk3 := HK3.out
        rw [if_pos (by simp [Region.wanted, yielded, e11])]
        go_simp
        exact hK.out _ _ hg ⟨nn,nn,nn,nn,nn,nn,nn,nn,nn,nn,nn,nn,nn,nn,nn,nn,nn,nn,nn, fun _ => rfl, nn,nn,nn,nn,nn,nn,nn,nn,nn,nn,nn,nn,nn,nn,nn,nn,nn,nn⟩ (fun _ _ h => h)
       case s20 =>
        intro a w' hoff hg hdep K hK
        obtain ⟨v19, e19, f19⟩ := hdep 19 _ 36 (by kernel_rfl) rfl rfl
        obtain rfl := (f19.2.2.2.2.2.2.2.2.2.2.2.2.2.2.2.2.2.2.2.1 rfl).symm
        obtain ⟨v11, e11, f11⟩ := hdep 11 _ 28 (by kernel_rfl) rfl rfl
        obtain rfl := (f11.2.2.2.2.2.2.2.2.2.2.2.1 rfl).symm
        rw [if_pos (by simp [Region.wanted, yielded, e11])]
        go_simp
        exact hK.out _ _ hg ⟨nn,nn,nn,nn,nn,nn,nn,nn,nn,nn,nn,nn,nn,nn,nn,nn,nn,nn,nn,nn, fun _ => rfl, nn,nn,nn,nn,nn,nn,nn,nn,nn,nn,nn,nn,nn,nn,nn,nn,nn⟩ (fun _ _ h => h)
       case s21 =>
        intro a w' hoff hg hdep K hK
        obtain ⟨v20, e20, f20⟩ := hdep 20 _ 37 (by kernel_rfl) rfl rfl
        obtain rfl := (f20.2.2.2.2.2.2.2.2.2.2.2.2.2.2.2.2.2.2.2.2.1 rfl).symm
        obtain ⟨v11, e11, f11⟩ := hdep 11 _ 28 (by kernel_rfl) rfl rfl
        obtain rfl := (f11.2.2.2.2.2.2.2.2.2.2.2.1 rfl).symm
        rw [if_pos (by simp [Region.wanted, yielded, e11])]
        have q0 := (hg.cell (p := ⟨lb, lo + k * 3, none⟩) HLB.out).trans Q0.out; have q1 := (hg.cell (p := ⟨lb, lo + k * 3 + 1, none⟩) HLB.out).trans Q1.out; have q2 := (hg.cell (p := ⟨lb, lo + k * 3 + 2, none⟩) HLB.out).trans Q2.out; have p0 := (hg.cell (p := ⟨mb, mo + k * 3, none⟩) HMB.out).trans P0.out; have p1 := (hg.cell (p := ⟨mb, mo + k * 3 + 1, none⟩) HMB.out).trans P1.out; have p2 := (hg.cell (p := ⟨mb, mo + k * 3 + 2, none⟩) HMB.out).trans P2.out
        go_simp
        exact hK.out _ _ hg ⟨nn,nn,nn,nn,nn,nn,nn,nn,nn,nn,nn,nn,nn,nn,nn,nn,nn,nn,nn,nn,nn, fun _ => rfl, nn,nn,nn,nn,nn,nn,nn,nn,nn,nn,nn,nn,nn,nn,nn,nn⟩ (fun _ _ h => h)
       case s22 =>
        intro a w' hoff hg hdep K hK
        obtain ⟨v16, e16, f16⟩ := hdep 16 _ 33 (by kernel_rfl) rfl rfl
        obtain rfl := (f16.2.2.2.2.2.2.2.2.2.2.2.2.2.2.2.2.1 rfl).symm
        obtain ⟨v21, e21, f21⟩ := hdep 21 _ 38 (by kernel_rfl) rfl rfl
        obtain rfl := (f21.2.2.2.2.2.2.2.2.2.2.2.2.2.2.2.2.2.2.2.2.2.1 rfl).symm
        obtain ⟨v11, e11, f11⟩ := hdep 11 _ 28 (by kernel_rfl) rfl rfl
        obtain rfl := (f11.2.2.2.2.2.2.2.2.2.2.2.1 rfl).symm
        rw [if_pos (by simp [Region.wanted, yielded, e11])]
        have hnn := HNN.out
        go_simp
        exact hK.out _ _ hg ⟨nn,nn,nn,nn,nn,nn,nn,nn,nn,nn,nn,nn,nn,nn,nn,nn,nn,nn,nn,nn,nn,nn, fun _ => rfl, nn,nn,nn,nn,nn,nn,nn,nn,nn,nn,nn,nn,nn,nn,nn⟩ (fun _ _ h => h)
       case s23 =>
        intro a w' hoff hg hdep K hK
        obtain ⟨v11, e11, f11⟩ := hdep 11 _ 28 (by kernel_rfl) rfl rfl
        obtain rfl := (f11.2.2.2.2.2.2.2.2.2.2.2.1 rfl).symm
        obtain ⟨v22, e22, f22⟩ := hdep 22 _ 39 (by kernel_rfl) rfl rfl
        obtain rfl := (f22.2.2.2.2.2.2.2.2.2.2.2.2.2.2.2.2.2.2.2.2.2.2.1 rfl).symm
        rw [if_pos (by rfl)]
        go_simp
        exact hK.out _ _ hg ⟨nn,nn,nn,nn,nn,nn,nn,nn,nn,nn,nn,nn,nn,nn,nn,nn,nn,nn,nn,nn,nn,nn,nn, fun _ => rfl, nn,nn,nn,nn,nn,nn,nn,nn,nn,nn,nn,nn,nn,nn⟩ (fun _ _ h => h)
       case s24 =>
        intro a w' hoff hg hdep K hK
        obtain ⟨v23, e23, f23⟩ := hdep 23 _ 40 (by kernel_rfl) rfl rfl
        obtain rfl := (f23.2.2.2.2.2.2.2.2.2.2.2.2.2.2.2.2.2.2.2.2.2.2.2.1 rfl).symm
        rw [if_pos (by rfl)]
        go_simp
        exact hK.out _ _ hg ⟨nn,nn,nn,nn,nn,nn,nn,nn,nn,nn,nn,nn,nn,nn,nn,nn,nn,nn,nn,nn,nn,nn,nn,nn, fun _ => rfl, nn,nn,nn,nn,nn,nn,nn,nn,nn,nn,nn,nn,nn⟩ (fun _ _ h => h)
       case s25 =>
        intro a w' hoff hg hdep K hK
        have h0 := off_at hoff 0 (v := .slice (some ⟨lb, lo, none⟩) l.length ac) (by kernel_rfl) rfl
        obtain ⟨v24, e24, f24⟩ := hdep 24 _ 41 (by kernel_rfl) rfl rfl
        obtain rfl := (f24.2.2.2.2.2.2.2.2.2.2.2.2.2.2.2.2.2.2.2.2.2.2.2.2.1 rfl).symm
        rw [if_pos (by simp [Region.wanted, yielded, e24])]
        go_simp
        exact hK.out _ _ hg ⟨nn,nn,nn,nn,nn,nn,nn,nn,nn,nn,nn,nn,nn,nn,nn,nn,nn,nn,nn,nn,nn,nn,nn,nn,nn, fun _ => rfl, nn,nn,nn,nn,nn,nn,nn,nn,nn,nn,nn,nn⟩ (fun _ _ h => h)
       case s26 =>
        intro a w' hoff hg hdep K hK
        have h5 := off_at hoff 5 (v := .int .i64 (k : Int)) (by kernel_rfl) rfl
        obtain ⟨v24, e24, f24⟩ := hdep 24 _ 41 (by kernel_rfl) rfl rfl
        obtain rfl := (f24.2.2.2.2.2.2.2.2.2.2.2.2.2.2.2.2.2.2.2.2.2.2.2.2.1 rfl).symm
        rw [if_pos (by simp [Region.wanted, yielded, e24])]
        go_simp
        exact hK.out _ _ hg ⟨nn,nn,nn,nn,nn,nn,nn,nn,nn,nn,nn,nn,nn,nn,nn,nn,nn,nn,nn,nn,nn,nn,nn,nn,nn,nn, fun _ => rfl, nn,nn,nn,nn,nn,nn,nn,nn,nn,nn,nn⟩ (fun _ _ h => h)
       case s27 =>
        intro a w' hoff hg hdep K hK
        obtain ⟨v25, e25, f25⟩ := hdep 25 _ 42 (by kernel_rfl) rfl rfl
        obtain rfl := (f25.2.2.2.2.2.2.2.2.2.2.2.2.2.2.2.2.2.2.2.2.2.2.2.2.2.1 rfl).symm
        obtain ⟨v26, e26, f26⟩ := hdep 26 _ 43 (by kernel_rfl) rfl rfl
        obtain rfl := (f26.2.2.2.2.2.2.2.2.2.2.2.2.2.2.2.2.2.2.2.2.2.2.2.2.2.2.1 rfl).symm
        obtain ⟨v24, e24, f24⟩ := hdep 24 _ 41 (by kernel_rfl) rfl rfl
        obtain rfl := (f24.2.2.2.2.2.2.2.2.2.2.2.2.2.2.2.2.2.2.2.2.2.2.2.2.1 rfl).symm
        have hk1 := HK1.out; have hk2 := HK2.out
        rw [if_pos (by simp [Region.wanted, yielded, e24])]
        go_simp
        exact hK.out _ _ hg ⟨nn,nn,nn,nn,nn,nn,nn,nn,nn,nn,nn,nn,nn,nn,nn,nn,nn,nn,nn,nn,nn,nn,nn,nn,nn,nn,nn, fun _ => rfl, nn,nn,nn,nn,nn,nn,nn,nn,nn,nn⟩ (fun _ _ h => h)
       case s28 =>
        intro a w' hoff hg hdep K hK
        obtain ⟨v27, e27, f27⟩ := hdep 27 _ 44 (by kernel_rfl) rfl rfl
        obtain rfl := (f27.2.2.2.2.2.2.2.2.2.2.2.2.2.2.2.2.2.2.2.2.2.2.2.2.2.2.2.1 rfl).symm
        obtain ⟨v24, e24, f24⟩ := hdep 24 _ 41 (by kernel_rfl) rfl rfl
        obtain rfl := (f24.2.2.2.2.2.2.2.2.2.2.2.2.2.2.2.2.2.2.2.2.2.2.2.2.1 rfl).symm
        rw [if_pos (by simp [Region.wanted, yielded, e24])]
        go_simp
        exact hK.out _ _ hg ⟨nn,nn,nn,nn,nn,nn,nn,nn,nn,nn,nn,nn,nn,nn,nn,nn,nn,nn,nn,nn,nn,nn,nn,nn,nn,nn,nn,nn, fun _ => rfl, nn,nn,nn,nn,nn,nn,nn,nn,nn⟩ (fun _ _ h => h)
       case s29 =>
        intro a w' hoff hg hdep K hK
        obtain ⟨v28, e28, f28⟩ := hdep 28 _ 45 (by kernel_rfl) rfl rfl
        obtain rfl := (f28.2.2.2.2.2.2.2.2.2.2.2.2.2.2.2.2.2.2.2.2.2.2.2.2.2.2.2.2.1 rfl).symm
        obtain ⟨v24, e24, f24⟩ := hdep 24 _ 41 (by kernel_rfl) rfl rfl
        obtain rfl := (f24.2.2.2.2.2.2.2.2.2.2.2.2.2.2.2.2.2.2.2.2.2.2.2.2.1 rfl).symm
        rw [if_pos (by simp [Region.wanted, yielded, e24])]
        have q0 := (hg.cell (p := ⟨lb, lo + k * 3, none⟩) HLB.out).trans Q0.out; have q1 := (hg.cell (p := ⟨lb, lo + k * 3 + 1, none⟩) HLB.out).trans Q1.out; have q2 := (hg.cell (p := ⟨lb, lo + k * 3 + 2, none⟩) HLB.out).trans Q2.out; have p0 := (hg.cell (p := ⟨mb, mo + k * 3, none⟩) HMB.out).trans P0.out; have p1 := (hg.cell (p := ⟨mb, mo + k * 3 + 1, none⟩) HMB.out).trans P1.out; have p2 := (hg.cell (p := ⟨mb, mo + k * 3 + 2, none⟩) HMB.out).trans P2.out
        go_simp
        exact hK.out _ _ hg ⟨nn,nn,nn,nn,nn,nn,nn,nn,nn,nn,nn,nn,nn,nn,nn,nn,nn,nn,nn,nn,nn,nn,nn,nn,nn,nn,nn,nn,nn, fun _ => rfl, nn,nn,nn,nn,nn,nn,nn,nn⟩ (fun _ _ h => h)
       case s30 =>
        intro a w' hoff hg hdep K hK
        have h1 := off_at hoff 1 (v := .slice (some ⟨mb, mo, none⟩) m.length bc) (by kernel_rfl) rfl
        obtain ⟨v24, e24, f24⟩ := hdep 24 _ 41 (by kernel_rfl) rfl rfl
        obtain rfl := (f24.2.2.2.2.2.2.2.2.2.2.2.2.2.2.2.2.2.2.2.2.2.2.2.2.1 rfl).symm
        rw [if_pos (by simp [Region.wanted, yielded, e24])]
        go_simp
        exact hK.out _ _ hg ⟨nn,nn,nn,nn,nn,nn,nn,nn,nn,nn,nn,nn,nn,nn,nn,nn,nn,nn,nn,nn,nn,nn,nn,nn,nn,nn,nn,nn,nn,nn, fun _ => rfl, nn,nn,nn,nn,nn,nn,nn⟩ (fun _ _ h => h)
       case s31 =>
        intro a w' hoff hg hdep K hK
        have h5 := off_at hoff 5 (v := .int .i64 (k : Int)) (by kernel_rfl) rfl
        obtain ⟨v24, e24, f24⟩ := hdep 24 _ 41 (by kernel_rfl) rfl rfl
        obtain rfl := (f24.2.2.2.2.2.2.2.2.2.2.2.2.2.2.2.2.2.2.2.2.2.2.2.2.1 rfl).symm
        rw [if_pos (by simp [Region.wanted, yielded, e24])]
        go_simp
        exact hK.out _ _ hg ⟨nn,nn,nn,nn,nn,nn,nn,nn,nn,nn,nn,nn,nn,nn,nn,nn,nn,nn,nn,nn,nn,nn,nn,nn,nn,nn,nn,nn,nn,nn,nn, fun _ => rfl, nn,nn,nn,nn,nn,nn⟩ (fun _ _ h => h)
       case s32 =>
        intro a w' hoff hg hdep K hK
        obtain ⟨v30, e30, f30⟩ := hdep 30 _ 47 (by kernel_rfl) rfl rfl
        obtain rfl := (f30.2.2.2.2.2.2.2.2.2.2.2.2.2.2.2.2.2.2.2.2.2.2.2.2.2.2.2.2.2.2.1 rfl).symm
        obtain ⟨v31, e31, f31⟩ := hdep 31 _ 48 (by kernel_rfl) rfl rfl
        obtain rfl := (f31.2.2.2.2.2.2.2.2.2.2.2.2.2.2.2.2.2.2.2.2.2.2.2.2.2.2.2.2.2.2.2.1 rfl).symm
        obtain ⟨v24, e24, f24⟩ := hdep 24 _ 41 (by kernel_rfl) rfl rfl
        obtain rfl := (f24.2.2.2.2.2.2.2.2.2.2.2.2.2.2.2.2.2.2.2.2.2.2.2.2.1 rfl).symm
        have hk1 := HK1.out; have hk3 := HK3.out
        rw [if_pos (by simp [Region.wanted, yielded, e24])]
        go_simp
        exact hK.out _ _ hg ⟨nn,nn,nn,nn,nn,nn,nn,nn,nn,nn,nn,nn,nn,nn,nn,nn,nn,nn,nn,nn,nn,nn,nn,nn,nn,nn,nn,nn,nn,nn,nn,nn, fun _ => rfl, nn,nn,nn,nn,nn⟩ (fun _ _ h => h)
       case s33 =>
        intro a w' hoff hg hdep K hK
        obtain ⟨v32, e32, f32⟩ := hdep 32 _ 49 (by kernel_rfl) rfl rfl
        obtain rfl := (f32.2.2.2.2.2.2.2.2.2.2.2.2.2.2.2.2.2.2.2.2.2.2.2.2.2.2.2.2.2.2.2.2.1 rfl).symm
        obtain ⟨v24, e24, f24⟩ := hdep 24 _ 41 (by kernel_rfl) rfl rfl
        obtain rfl := (f24.2.2.2.2.2.2.2.2.2.2.2.2.2.2.2.2.2.2.2.2.2.2.2.2.1 rfl).symm
        rw [if_pos (by simp [Region.wanted, yielded, e24])]
        go_simp
        exact hK.out _ _ hg ⟨nn,nn,nn,nn,nn,nn,nn,nn,nn,nn,nn,nn,nn,nn,nn,nn,nn,nn,nn,nn,nn,nn,nn,nn,nn,nn,nn,nn,nn,nn,nn,nn,nn, fun _ => rfl, nn,nn,nn,nn⟩ (fun _ _ h => h)
       case s34 =>
        intro a w' hoff hg hdep K hK
        obtain ⟨v33, e33, f33⟩ := hdep 33 _ 50 (by kernel_rfl) rfl rfl
        obtain rfl := (f33.2.2.2.2.2.2.2.2.2.2.2.2.2.2.2.2.2.2.2.2.2.2.2.2.2.2.2.2.2.2.2.2.2.1 rfl).symm
        obtain ⟨v24, e24, f24⟩ := hdep 24 _ 41 (by kernel_rfl) rfl rfl
        obtain rfl := (f24.2.2.2.2.2.2.2.2.2.2.2.2.2.2.2.2.2.2.2.2.2.2.2.2.1 rfl).symm
        rw [if_pos (by simp [Region.wanted, yielded, e24])]
        have q0 := (hg.cell (p := ⟨lb, lo + k * 3, none⟩) HLB.out).trans Q0.out; have q1 := (hg.cell (p := ⟨lb, lo + k * 3 + 1, none⟩) HLB.out).trans Q1.out; have q2 := (hg.cell (p := ⟨lb, lo + k * 3 + 2, none⟩) HLB.out).trans Q2.out; have p0 := (hg.cell (p := ⟨mb, mo + k * 3, none⟩) HMB.out).trans P0.out; have p1 := (hg.cell (p := ⟨mb, mo + k * 3 + 1, none⟩) HMB.out).trans P1.out; have p2 := (hg.cell (p := ⟨mb, mo + k * 3 + 2, none⟩) HMB.out).trans P2.out
        go_simp
        exact hK.out _ _ hg ⟨nn,nn,nn,nn,nn,nn,nn,nn,nn,nn,nn,nn,nn,nn,nn,nn,nn,nn,nn,nn,nn,nn,nn,nn,nn,nn,nn,nn,nn,nn,nn,nn,nn,nn, fun _ => rfl, nn,nn,nn⟩ (fun _ _ h => h)
       case s35 =>
        intro a w' hoff hg hdep K hK
        obtain ⟨v29, e29, f29⟩ := hdep 29 _ 46 (by kernel_rfl) rfl rfl
        obtain rfl := (f29.2.2.2.2.2.2.2.2.2.2.2.2.2.2.2.2.2.2.2.2.2.2.2.2.2.2.2.2.2.1 rfl).symm
        obtain ⟨v34, e34, f34⟩ := hdep 34 _ 51 (by kernel_rfl) rfl rfl
        obtain rfl := (f34.2.2.2.2.2.2.2.2.2.2.2.2.2.2.2.2.2.2.2.2.2.2.2.2.2.2.2.2.2.2.2.2.2.2.1 rfl).symm
        obtain ⟨v24, e24, f24⟩ := hdep 24 _ 41 (by kernel_rfl) rfl rfl
        obtain rfl := (f24.2.2.2.2.2.2.2.2.2.2.2.2.2.2.2.2.2.2.2.2.2.2.2.2.1 rfl).symm
        rw [if_pos (by simp [Region.wanted, yielded, e24])]
        go_simp
        refine (sameTms_any x.args y.args S w' _ _ (fun j hj => Nat.lt_of_lt_of_le (HSR.out j hj) hg.size) (RepMs.on (fun _ h => h) (fun j hj => hg.block j (HSR.out j hj)) GX.out.2.2.2.2) (RepMs.on (fun _ h => h) (fun j hj => hg.block j (HSR.out j hj)) GY.out.2.2.2.2)).mono ?_
        rw [HV2.out]
        rintro e w2' ⟨rfl, hb⟩
        exact hK.out _ _ (Below.step hg hb) ⟨nn,nn,nn,nn,nn,nn,nn,nn,nn,nn,nn,nn,nn,nn,nn,nn,nn,nn,nn,nn,nn,nn,nn,nn,nn,nn,nn,nn,nn,nn,nn,nn,nn,nn,nn, fun _ => rfl, nn,nn⟩ (fun _ _ h => ⟨h.1, h.2.1, h.2.2.1, h.2.2.2.1, h.2.2.2.2.1, h.2.2.2.2.2.1, h.2.2.2.2.2.2.1, h.2.2.2.2.2.2.2.1, h.2.2.2.2.2.2.2.2.1, h.2.2.2.2.2.2.2.2.2.1, h.2.2.2.2.2.2.2.2.2.2.1, h.2.2.2.2.2.2.2.2.2.2.2.1, h.2.2.2.2.2.2.2.2.2.2.2.2.1, h.2.2.2.2.2.2.2.2.2.2.2.2.2.1, h.2.2.2.2.2.2.2.2.2.2.2.2.2.2.1, h.2.2.2.2.2.2.2.2.2.2.2.2.2.2.2.1, h.2.2.2.2.2.2.2.2.2.2.2.2.2.2.2.2.1, h.2.2.2.2.2.2.2.2.2.2.2.2.2.2.2.2.2.1, h.2.2.2.2.2.2.2.2.2.2.2.2.2.2.2.2.2.2.1, h.2.2.2.2.2.2.2.2.2.2.2.2.2.2.2.2.2.2.2.1, h.2.2.2.2.2.2.2.2.2.2.2.2.2.2.2.2.2.2.2.2.1, h.2.2.2.2.2.2.2.2.2.2.2.2.2.2.2.2.2.2.2.2.2.1, h.2.2.2.2.2.2.2.2.2.2.2.2.2.2.2.2.2.2.2.2.2.2.1, h.2.2.2.2.2.2.2.2.2.2.2.2.2.2.2.2.2.2.2.2.2.2.2.1, h.2.2.2.2.2.2.2.2.2.2.2.2.2.2.2.2.2.2.2.2.2.2.2.2.1, h.2.2.2.2.2.2.2.2.2.2.2.2.2.2.2.2.2.2.2.2.2.2.2.2.2.1, h.2.2.2.2.2.2.2.2.2.2.2.2.2.2.2.2.2.2.2.2.2.2.2.2.2.2.1, h.2.2.2.2.2.2.2.2.2.2.2.2.2.2.2.2.2.2.2.2.2.2.2.2.2.2.2.1, h.2.2.2.2.2.2.2.2.2.2.2.2.2.2.2.2.2.2.2.2.2.2.2.2.2.2.2.2.1, h.2.2.2.2.2.2.2.2.2.2.2.2.2.2.2.2.2.2.2.2.2.2.2.2.2.2.2.2.2.1, h.2.2.2.2.2.2.2.2.2.2.2.2.2.2.2.2.2.2.2.2.2.2.2.2.2.2.2.2.2.2.1, h.2.2.2.2.2.2.2.2.2.2.2.2.2.2.2.2.2.2.2.2.2.2.2.2.2.2.2.2.2.2.2.1, h.2.2.2.2.2.2.2.2.2.2.2.2.2.2.2.2.2.2.2.2.2.2.2.2.2.2.2.2.2.2.2.2.1, h.2.2.2.2.2.2.2.2.2.2.2.2.2.2.2.2.2.2.2.2.2.2.2.2.2.2.2.2.2.2.2.2.2.1, h.2.2.2.2.2.2.2.2.2.2.2.2.2.2.2.2.2.2.2.2.2.2.2.2.2.2.2.2.2.2.2.2.2.2.1, h.2.2.2.2.2.2.2.2.2.2.2.2.2.2.2.2.2.2.2.2.2.2.2.2.2.2.2.2.2.2.2.2.2.2.2.1, h.2.2.2.2.2.2.2.2.2.2.2.2.2.2.2.2.2.2.2.2.2.2.2.2.2.2.2.2.2.2.2.2.2.2.2.2.1, h.2.2.2.2.2.2.2.2.2.2.2.2.2.2.2.2.2.2.2.2.2.2.2.2.2.2.2.2.2.2.2.2.2.2.2.2.2⟩)
       case s36 =>
        intro a w' hoff hg hdep K hK
        obtain ⟨v35, e35, f35⟩ := hdep 35 _ 52 (by kernel_rfl) rfl rfl
        obtain rfl := (f35.2.2.2.2.2.2.2.2.2.2.2.2.2.2.2.2.2.2.2.2.2.2.2.2.2.2.2.2.2.2.2.2.2.2.2.1 rfl).symm
        obtain ⟨v24, e24, f24⟩ := hdep 24 _ 41 (by kernel_rfl) rfl rfl
        obtain rfl := (f24.2.2.2.2.2.2.2.2.2.2.2.2.2.2.2.2.2.2.2.2.2.2.2.2.1 rfl).symm
        rw [if_pos (by simp [Region.wanted, yielded, e24])]
        go_simp
        exact hK.out _ _ hg ⟨nn,nn,nn,nn,nn,nn,nn,nn,nn,nn,nn,nn,nn,nn,nn,nn,nn,nn,nn,nn,nn,nn,nn,nn,nn,nn,nn,nn,nn,nn,nn,nn,nn,nn,nn,nn, fun _ => rfl, nn⟩ (fun _ _ h => h)
       case s37 =>
        intro a w' hoff hg hdep K hK
        obtain ⟨v24, e24, f24⟩ := hdep 24 _ 41 (by kernel_rfl) rfl rfl
        obtain rfl := (f24.2.2.2.2.2.2.2.2.2.2.2.2.2.2.2.2.2.2.2.2.2.2.2.2.1 rfl).symm
        obtain ⟨v36, e36, f36⟩ := hdep 36 _ 53 (by kernel_rfl) rfl rfl
        obtain rfl := (f36.2.2.2.2.2.2.2.2.2.2.2.2.2.2.2.2.2.2.2.2.2.2.2.2.2.2.2.2.2.2.2.2.2.2.2.2.1 rfl).symm
        rw [if_pos (by rfl)]
        go_simp
        exact hK.out _ _ hg ⟨nn,nn,nn,nn,nn,nn,nn,nn,nn,nn,nn,nn,nn,nn,nn,nn,nn,nn,nn,nn,nn,nn,nn,nn,nn,nn,nn,nn,nn,nn,nn,nn,nn,nn,nn,nn,nn, fun _ => rfl⟩ (fun _ _ h => h)
       case fin =>
        intro a w9 hoff hg hf
        obtain ⟨v0, e0, f0⟩ := hf 0 _ 17 rfl rfl
        obtain rfl := (f0.1 rfl).symm
        obtain ⟨v1, e1, f1⟩ := hf 1 _ 18 rfl rfl
        obtain rfl := (f1.2.1 rfl).symm
        obtain ⟨v2, e2, f2⟩ := hf 2 _ 19 rfl rfl
        obtain rfl := (f2.2.2.1 rfl).symm
        obtain ⟨v3, e3, f3⟩ := hf 3 _ 20 rfl rfl
        obtain rfl := (f3.2.2.2.1 rfl).symm
        obtain ⟨v4, e4, f4⟩ := hf 4 _ 21 rfl rfl
        obtain rfl := (f4.2.2.2.2.1 rfl).symm
        obtain ⟨v5, e5, f5⟩ := hf 5 _ 22 rfl rfl
        obtain rfl := (f5.2.2.2.2.2.1 rfl).symm
        obtain ⟨v6, e6, f6⟩ := hf 6 _ 23 rfl rfl
        obtain rfl := (f6.2.2.2.2.2.2.1 rfl).symm
        obtain ⟨v7, e7, f7⟩ := hf 7 _ 24 rfl rfl
        obtain rfl := (f7.2.2.2.2.2.2.2.1 rfl).symm
        obtain ⟨v8, e8, f8⟩ := hf 8 _ 25 rfl rfl
        obtain rfl := (f8.2.2.2.2.2.2.2.2.1 rfl).symm
        obtain ⟨v9, e9, f9⟩ := hf 9 _ 26 rfl rfl
        obtain rfl := (f9.2.2.2.2.2.2.2.2.2.1 rfl).symm
        obtain ⟨v10, e10, f10⟩ := hf 10 _ 27 rfl rfl
        obtain rfl := (f10.2.2.2.2.2.2.2.2.2.2.1 rfl).symm
        obtain ⟨v11, e11, f11⟩ := hf 11 _ 28 rfl rfl
        obtain rfl := (f11.2.2.2.2.2.2.2.2.2.2.2.1 rfl).symm
        obtain ⟨v12, e12, f12⟩ := hf 12 _ 29 rfl rfl
        obtain rfl := (f12.2.2.2.2.2.2.2.2.2.2.2.2.1 rfl).symm
        obtain ⟨v13, e13, f13⟩ := hf 13 _ 30 rfl rfl
        obtain rfl := (f13.2.2.2.2.2.2.2.2.2.2.2.2.2.1 rfl).symm
        obtain ⟨v14, e14, f14⟩ := hf 14 _ 31 rfl rfl
        obtain rfl := (f14.2.2.2.2.2.2.2.2.2.2.2.2.2.2.1 rfl).symm
        obtain ⟨v15, e15, f15⟩ := hf 15 _ 32 rfl rfl
        obtain rfl := (f15.2.2.2.2.2.2.2.2.2.2.2.2.2.2.2.1 rfl).symm
        obtain ⟨v16, e16, f16⟩ := hf 16 _ 33 rfl rfl
        obtain rfl := (f16.2.2.2.2.2.2.2.2.2.2.2.2.2.2.2.2.1 rfl).symm
        obtain ⟨v17, e17, f17⟩ := hf 17 _ 34 rfl rfl
        obtain rfl := (f17.2.2.2.2.2.2.2.2.2.2.2.2.2.2.2.2.2.1 rfl).symm
        obtain ⟨v18, e18, f18⟩ := hf 18 _ 35 rfl rfl
        obtain rfl := (f18.2.2.2.2.2.2.2.2.2.2.2.2.2.2.2.2.2.2.1 rfl).symm
        obtain ⟨v19, e19, f19⟩ := hf 19 _ 36 rfl rfl
        obtain rfl := (f19.2.2.2.2.2.2.2.2.2.2.2.2.2.2.2.2.2.2.2.1 rfl).symm
        obtain ⟨v20, e20, f20⟩ := hf 20 _ 37 rfl rfl
        obtain rfl := (f20.2.2.2.2.2.2.2.2.2.2.2.2.2.2.2.2.2.2.2.2.1 rfl).symm
        obtain ⟨v21, e21, f21⟩ := hf 21 _ 38 rfl rfl
        obtain rfl := (f21.2.2.2.2.2.2.2.2.2.2.2.2.2.2.2.2.2.2.2.2.2.1 rfl).symm
        obtain ⟨v22, e22, f22⟩ := hf 22 _ 39 rfl rfl
        obtain rfl := (f22.2.2.2.2.2.2.2.2.2.2.2.2.2.2.2.2.2.2.2.2.2.2.1 rfl).symm
        obtain ⟨v23, e23, f23⟩ := hf 23 _ 40 rfl rfl
        obtain rfl := (f23.2.2.2.2.2.2.2.2.2.2.2.2.2.2.2.2.2.2.2.2.2.2.2.1 rfl).symm
        obtain ⟨v24, e24, f24⟩ := hf 24 _ 41 rfl rfl
        obtain rfl := (f24.2.2.2.2.2.2.2.2.2.2.2.2.2.2.2.2.2.2.2.2.2.2.2.2.1 rfl).symm
        obtain ⟨v25, e25, f25⟩ := hf 25 _ 42 rfl rfl
        obtain rfl := (f25.2.2.2.2.2.2.2.2.2.2.2.2.2.2.2.2.2.2.2.2.2.2.2.2.2.1 rfl).symm
        obtain ⟨v26, e26, f26⟩ := hf 26 _ 43 rfl rfl
        obtain rfl := (f26.2.2.2.2.2.2.2.2.2.2.2.2.2.2.2.2.2.2.2.2.2.2.2.2.2.2.1 rfl).symm
        obtain ⟨v27, e27, f27⟩ := hf 27 _ 44 rfl rfl
        obtain rfl := (f27.2.2.2.2.2.2.2.2.2.2.2.2.2.2.2.2.2.2.2.2.2.2.2.2.2.2.2.1 rfl).symm
        obtain ⟨v28, e28, f28⟩ := hf 28 _ 45 rfl rfl
        obtain rfl := (f28.2.2.2.2.2.2.2.2.2.2.2.2.2.2.2.2.2.2.2.2.2.2.2.2.2.2.2.2.1 rfl).symm
        obtain ⟨v29, e29, f29⟩ := hf 29 _ 46 rfl rfl
        obtain rfl := (f29.2.2.2.2.2.2.2.2.2.2.2.2.2.2.2.2.2.2.2.2.2.2.2.2.2.2.2.2.2.1 rfl).symm
        obtain ⟨v30, e30, f30⟩ := hf 30 _ 47 rfl rfl
        obtain rfl := (f30.2.2.2.2.2.2.2.2.2.2.2.2.2.2.2.2.2.2.2.2.2.2.2.2.2.2.2.2.2.2.1 rfl).symm
        obtain ⟨v31, e31, f31⟩ := hf 31 _ 48 rfl rfl
        obtain rfl := (f31.2.2.2.2.2.2.2.2.2.2.2.2.2.2.2.2.2.2.2.2.2.2.2.2.2.2.2.2.2.2.2.1 rfl).symm
        obtain ⟨v32, e32, f32⟩ := hf 32 _ 49 rfl rfl
        obtain rfl := (f32.2.2.2.2.2.2.2.2.2.2.2.2.2.2.2.2.2.2.2.2.2.2.2.2.2.2.2.2.2.2.2.2.1 rfl).symm
        obtain ⟨v33, e33, f33⟩ := hf 33 _ 50 rfl rfl
        obtain rfl := (f33.2.2.2.2.2.2.2.2.2.2.2.2.2.2.2.2.2.2.2.2.2.2.2.2.2.2.2.2.2.2.2.2.2.1 rfl).symm
        obtain ⟨v34, e34, f34⟩ := hf 34 _ 51 rfl rfl
        obtain rfl := (f34.2.2.2.2.2.2.2.2.2.2.2.2.2.2.2.2.2.2.2.2.2.2.2.2.2.2.2.2.2.2.2.2.2.2.1 rfl).symm
        obtain ⟨v35, e35, f35⟩ := hf 35 _ 52 rfl rfl
        obtain rfl := (f35.2.2.2.2.2.2.2.2.2.2.2.2.2.2.2.2.2.2.2.2.2.2.2.2.2.2.2.2.2.2.2.2.2.2.2.1 rfl).symm
        obtain ⟨v36, e36, f36⟩ := hf 36 _ 53 rfl rfl
        obtain rfl := (f36.2.2.2.2.2.2.2.2.2.2.2.2.2.2.2.2.2.2.2.2.2.2.2.2.2.2.2.2.2.2.2.2.2.2.2.2.1 rfl).symm
        obtain ⟨v37, e37, f37⟩ := hf 37 _ 54 rfl rfl
        obtain rfl := (f37.2.2.2.2.2.2.2.2.2.2.2.2.2.2.2.2.2.2.2.2.2.2.2.2.2.2.2.2.2.2.2.2.2.2.2.2.2 rfl).symm
        rw [hoff.sets [(17, .slice (some ⟨lb, lo, none⟩) l.length ac), (18, .int .i64 (k : Int)), (19, .pointer (some ⟨lb, lo + k * 3, none⟩)), (20, .pointer (some ⟨lb, lo + k * 3, none⟩)), (21, .int .i64 x.kind), (22, .slice (some ⟨mb, mo, none⟩) m.length bc), (23, .int .i64 (k : Int)), (24, .pointer (some ⟨mb, mo + k * 3, none⟩)), (25, .pointer (some ⟨mb, mo + k * 3, none⟩)), (26, .int .i64 y.kind), (27, .bool false), (28, .bool false), (29, .slice (some ⟨lb, lo, none⟩) l.length ac), (30, .int .i64 (k : Int)), (31, .pointer (some ⟨lb, lo + k * 3, none⟩)), (32, .pointer (some ⟨lb, lo + k * 3 + 1, none⟩)), (33, .string x.name), (34, .slice (some ⟨mb, mo, none⟩) m.length bc), (35, .int .i64 (k : Int)), (36, .pointer (some ⟨mb, mo + k * 3, none⟩)), (37, .pointer (some ⟨mb, mo + k * 3 + 1, none⟩)), (38, .string y.name), (39, .bool false), (40, .bool false), (41, .bool false), (42, .slice (some ⟨lb, lo, none⟩) l.length ac), (43, .int .i64 (k : Int)), (44, .pointer (some ⟨lb, lo + k * 3, none⟩)), (45, .pointer (some ⟨lb, lo + k * 3 + 2, none⟩)), (46, .slice xa x.args.length xd), (47, .slice (some ⟨mb, mo, none⟩) m.length bc), (48, .int .i64 (k : Int)), (49, .pointer (some ⟨mb, mo + k * 3, none⟩)), (50, .pointer (some ⟨mb, mo + k * 3 + 2, none⟩)), (51, .slice ya y.args.length yd), (52, .bool false), (53, .bool true), (54, .bool true)] (by kernel_rfl) (by intro p hp; simp only [List.mem_cons, List.not_mem_nil, or_false] at hp; rcases hp with rfl | rfl | rfl | rfl | rfl | rfl | rfl | rfl | rfl | rfl | rfl | rfl | rfl | rfl | rfl | rfl | rfl | rfl | rfl | rfl | rfl | rfl | rfl | rfl | rfl | rfl | rfl | rfl | rfl | rfl | rfl | rfl | rfl | rfl | rfl | rfl | rfl | rfl <;> assumption)]
        clear hoff hf e0 f0 e1 f1 e2 f2 e3 f3 e4 f4 e5 f5 e6 f6 e7 f7 e8 f8 e9 f9 e10 f10 e11 f11 e12 f12 e13 f13 e14 f14 e15 f15 e16 f16 e17 f17 e18 f18 e19 f19 e20 f20 e21 f21 e22 f22 e23 f23 e24 f24 e25 f25 e26 f26 e27 f27 e28 f28 e29 f29 e30 f30 e31 f31 e32 f32 e33 f33 e34 f34 e35 f35 e36 f36 e37 f37
        simp only [List.foldl_cons, List.foldl_nil, List.setIfInBounds_toArray, List.set_cons_zero, List.set_cons_succ]
        have HB10 := Lib.hid (Below.step HBEL.out hg)
        clear hg
        go_wp2_with fail
        go_ret
        exact ⟨retB (by rw [eqB_false HF1.out]), HB10.out⟩
      | true =>
       have HKK : Hid ((x.kind != y.kind) = false) := Lib.hid (by simp [hke])
       have HNN : Hid ((x.name.toList == y.name.toList) = true) := Lib.hid (by simp [hne])
       have HV2 : Hid (eqB (x.args = y.args) = true) := hv2
       have HNX : Hid (l = m ↔ l.drop (k + 1) = m.drop (k + 1)) := by
        show _ ↔ _
        rw [HREC.out, HDR.out]
        exact ⟨fun h => h.2, fun h => ⟨HEX.out.2 ⟨hke, hne, of_eqB HV2.out⟩, h⟩⟩
       clear hke hne hv2
       go_wp2_with fail
       refine wp_region_factsG (by rfl) 55 (by rfl) (by kernel_rfl) (fun wz iz vz => (iz = 0 → vz = .slice (some ⟨lb, lo, none⟩) l.length ac) ∧ (iz = 1 → vz = .int .i64 (k : Int)) ∧ (iz = 2 → vz = .pointer (some ⟨lb, lo + k * 3, none⟩)) ∧ (iz = 3 → vz = .pointer (some ⟨lb, lo + k * 3, none⟩)) ∧ (iz = 4 → vz = .int .i64 x.kind) ∧ (iz = 5 → vz = .slice (some ⟨mb, mo, none⟩) m.length bc) ∧ (iz = 6 → vz = .int .i64 (k : Int)) ∧ (iz = 7 → vz = .pointer (some ⟨mb, mo + k * 3, none⟩)) ∧ (iz = 8 → vz = .pointer (some ⟨mb, mo + k * 3, none⟩)) ∧ (iz = 9 → vz = .int .i64 y.kind) ∧ (iz = 10 → vz = .bool false) ∧ (iz = 11 → vz = .bool false) ∧ (iz = 12 → vz = .slice (some ⟨lb, lo, none⟩) l.length ac) ∧ (iz = 13 → vz = .int .i64 (k : Int)) ∧ (iz = 14 → vz = .pointer (some ⟨lb, lo + k * 3, none⟩)) ∧ (iz = 15 → vz = .pointer (some ⟨lb, lo + k * 3 + 1, none⟩)) ∧ (iz = 16 → vz = .string x.name) ∧ (iz = 17 → vz = .slice (some ⟨mb, mo, none⟩) m.length bc) ∧ (iz = 18 → vz = .int .i64 (k : Int)) ∧ (iz = 19 → vz = .pointer (some ⟨mb, mo + k * 3, none⟩)) ∧ (iz = 20 → vz = .pointer (some ⟨mb, mo + k * 3 + 1, none⟩)) ∧ (iz = 21 → vz = .string y.name) ∧ (iz = 22 → vz = .bool false) ∧ (iz = 23 → vz = .bool false) ∧ (iz = 24 → vz = .bool false) ∧ (iz = 25 → vz = .slice (some ⟨lb, lo, none⟩) l.length ac) ∧ (iz = 26 → vz = .int .i64 (k : Int)) ∧ (iz = 27 → vz = .pointer (some ⟨lb, lo + k * 3, none⟩)) ∧ (iz = 28 → vz = .pointer (some ⟨lb, lo + k * 3 + 2, none⟩)) ∧ (iz = 29 → vz = .slice xa x.args.length xd) ∧ (iz = 30 → vz = .slice (some ⟨mb, mo, none⟩) m.length bc) ∧ (iz = 31 → vz = .int .i64 (k : Int)) ∧ (iz = 32 → vz = .pointer (some ⟨mb, mo + k * 3, none⟩)) ∧ (iz = 33 → vz = .pointer (some ⟨mb, mo + k * 3 + 2, none⟩)) ∧ (iz = 34 → vz = .slice ya y.args.length yd) ∧ (iz = 35 → vz = .bool true) ∧ (iz = 36 → vz = .bool false) ∧ (iz = 37 → vz = .bool false)) (fun w' => Below wr.heap.size wr w') (Below.drew (Below.refl _ _)) ⟨?s0, ?s1, ?s2, ?s3, ?s4, ?s5, ?s6, ?s7, ?s8, ?s9, ?s10, ?s11, ?s12, ?s13, ?s14, ?s15, ?s16, ?s17, ?s18, ?s19, ?s20, ?s21, ?s22, ?s23, ?s24, ?s25, ?s26, ?s27, ?s28, ?s29, ?s30, ?s31, ?s32, ?s33, ?s34, ?s35, ?s36, ?s37, trivial⟩ ?fin
       case s0 =>
        intro a w' hoff hg hdep K hK
        have h0 := off_at hoff 0 (v := .slice (some ⟨lb, lo, none⟩) l.length ac) (by kernel_rfl) rfl
        rw [if_pos (by rfl)]
        go_simp
        exact hK.out _ _ hg ⟨fun _ => rfl, nn,nn,nn,nn,nn,nn,nn,nn,nn,nn,nn,nn,nn,nn,nn,nn,nn,nn,nn,nn,nn,nn,nn,nn,nn,nn,nn,nn,nn,nn,nn,nn,nn,nn,nn,nn,nn⟩ (fun _ _ h => h)
       case s1 =>
        intro a w' hoff hg hdep K hK
        have h5 := off_at hoff 5 (v := .int .i64 (k : Int)) (by kernel_rfl) rfl
        rw [if_pos (by rfl)]
        go_simp
        exact hK.out _ _ hg ⟨nn, fun _ => rfl, nn,nn,nn,nn,nn,nn,nn,nn,nn,nn,nn,nn,nn,nn,nn,nn,nn,nn,nn,nn,nn,nn,nn,nn,nn,nn,nn,nn,nn,nn,nn,nn,nn,nn,nn,nn⟩ (fun _ _ h => h)
       case s2 =>
        intro a w' hoff hg hdep K hK
        obtain ⟨v0, e0, f0⟩ := hdep 0 _ 17 (by kernel_rfl) rfl rfl
        obtain rfl := (f0.1 rfl).symm
        obtain ⟨v1, e1, f1⟩ := hdep 1 _ 18 (by kernel_rfl) rfl rfl
        obtain rfl := (f1.2.1 rfl).symm
        have hk1 := HK1.out; have hk2 := HK2.out
        rw [if_pos (by rfl)]
        go_simp
        exact hK.out _ _ hg ⟨nn,nn, fun _ => rfl, nn,nn,nn,nn,nn,nn,nn,nn,nn,nn,nn,nn,nn,nn,nn,nn,nn,nn,nn,nn,nn,nn,nn,nn,nn,nn,nn,nn,nn,nn,nn,nn,nn,nn,nn⟩ (fun _ _ h => h)
       case s3 =>
        intro a w' hoff hg hdep K hK
        obtain ⟨v2, e2, f2⟩ := hdep 2 _ 19 (by kernel_rfl) rfl rfl
        obtain rfl := (f2.2.2.1 rfl).symm
        rw [if_pos (by rfl)]
        go_simp
        exact hK.out _ _ hg ⟨nn,nn,nn, fun _ => rfl, nn,nn,nn,nn,nn,nn,nn,nn,nn,nn,nn,nn,nn,nn,nn,nn,nn,nn,nn,nn,nn,nn,nn,nn,nn,nn,nn,nn,nn,nn,nn,nn,nn,nn⟩ (fun _ _ h => h)
       case s4 =>
        intro a w' hoff hg hdep K hK
        obtain ⟨v3, e3, f3⟩ := hdep 3 _ 20 (by kernel_rfl) rfl rfl
        obtain rfl := (f3.2.2.2.1 rfl).symm
        rw [if_pos (by rfl)]
        have q0 := (hg.cell (p := ⟨lb, lo + k * 3, none⟩) HLB.out).trans Q0.out; have q1 := (hg.cell (p := ⟨lb, lo + k * 3 + 1, none⟩) HLB.out).trans Q1.out; have q2 := (hg.cell (p := ⟨lb, lo + k * 3 + 2, none⟩) HLB.out).trans Q2.out; have p0 := (hg.cell (p := ⟨mb, mo + k * 3, none⟩) HMB.out).trans P0.out; have p1 := (hg.cell (p := ⟨mb, mo + k * 3 + 1, none⟩) HMB.out).trans P1.out; have p2 := (hg.cell (p := ⟨mb, mo + k * 3 + 2, none⟩) HMB.out).trans P2.out
        go_simp
        exact hK.out _ _ hg ⟨nn,nn,nn,nn, fun _ => rfl, nn,nn,nn,nn,nn,nn,nn,nn,nn,nn,nn,nn,nn,nn,nn,nn,nn,nn,nn,nn,nn,nn,nn,nn,nn,nn,nn,nn,nn,nn,nn,nn,nn⟩ (fun _ _ h => h)
       case s5 =>
        intro a w' hoff hg hdep K hK
        have h1 := off_at hoff 1 (v := .slice (some ⟨mb, mo, none⟩) m.length bc) (by kernel_rfl) rfl
        rw [if_pos (by rfl)]
        go_simp
        exact hK.out _ _ hg ⟨nn,nn,nn,nn,nn, fun _ => rfl, nn,nn,nn,nn,nn,nn,nn,nn,nn,nn,nn,nn,nn,nn,nn,nn,nn,nn,nn,nn,nn,nn,nn,nn,nn,nn,nn,nn,nn,nn,nn,nn⟩ (fun _ _ h => h)
       case s6 =>
        intro a w' hoff hg hdep K hK
        have h5 := off_at hoff 5 (v := .int .i64 (k : Int)) (by kernel_rfl) rfl
        rw [if_pos (by rfl)]
        go_simp
        exact hK.out _ _ hg ⟨nn,nn,nn,nn,nn,nn, fun _ => rfl, nn,nn,nn,nn,nn,nn,nn,nn,nn,nn,nn,nn,nn,nn,nn,nn,nn,nn,nn,nn,nn,nn,nn,nn,nn,nn,nn,nn,nn,nn,nn⟩ (fun _ _ h => h)
       case s7 =>
        intro a w' hoff hg hdep K hK
        obtain ⟨v5, e5, f5⟩ := hdep 5 _ 22 (by kernel_rfl) rfl rfl
        obtain rfl := (f5.2.2.2.2.2.1 rfl).symm
        obtain ⟨v6, e6, f6⟩ := hdep 6 _ 23 (by kernel_rfl) rfl rfl
        obtain rfl := (f6.2.2.2.2.2.2.1 rfl).symm
        have hk1 := HK1.out; have hk3 := HK3.out
        rw [if_pos (by rfl)]
        go_simp
        exact hK.out _ _ hg ⟨nn,nn,nn,nn,nn,nn,nn, fun _ => rfl, nn,nn,nn,nn,nn,nn,nn,nn,nn,nn,nn,nn,nn,nn,nn,nn,nn,nn,nn,nn,nn,nn,nn,nn,nn,nn,nn,nn,nn,nn⟩ (fun _ _ h => h)
       case s8 =>
        intro a w' hoff hg hdep K hK
        obtain ⟨v7, e7, f7⟩ := hdep 7 _ 24 (by kernel_rfl) rfl rfl
        obtain rfl := (f7.2.2.2.2.2.2.2.1 rfl).symm
        rw [if_pos (by rfl)]
        go_simp
        exact hK.out _ _ hg ⟨nn,nn,nn,nn,nn,nn,nn,nn, fun _ => rfl, nn,nn,nn,nn,nn,nn,nn,nn,nn,nn,nn,nn,nn,nn,nn,nn,nn,nn,nn,nn,nn,nn,nn,nn,nn,nn,nn,nn,nn⟩ (fun _ _ h => h)
       case s9 =>
        intro a w' hoff hg hdep K hK
        obtain ⟨v8, e8, f8⟩ := hdep 8 _ 25 (by kernel_rfl) rfl rfl
        obtain rfl := (f8.2.2.2.2.2.2.2.2.1 rfl).symm
        rw [if_pos (by rfl)]
        have q0 := (hg.cell (p := ⟨lb, lo + k * 3, none⟩) HLB.out).trans Q0.out; have q1 := (hg.cell (p := ⟨lb, lo + k * 3 + 1, none⟩) HLB.out).trans Q1.out; have q2 := (hg.cell (p := ⟨lb, lo + k * 3 + 2, none⟩) HLB.out).trans Q2.out; have p0 := (hg.cell (p := ⟨mb, mo + k * 3, none⟩) HMB.out).trans P0.out; have p1 := (hg.cell (p := ⟨mb, mo + k * 3 + 1, none⟩) HMB.out).trans P1.out; have p2 := (hg.cell (p := ⟨mb, mo + k * 3 + 2, none⟩) HMB.out).trans P2.out
        go_simp
        exact hK.out _ _ hg ⟨nn,nn,nn,nn,nn,nn,nn,nn,nn, fun _ => rfl, nn,nn,nn,nn,nn,nn,nn,nn,nn,nn,nn,nn,nn,nn,nn,nn,nn,nn,nn,nn,nn,nn,nn,nn,nn,nn,nn,nn⟩ (fun _ _ h => h)
       case s10 =>
        intro a w' hoff hg hdep K hK
        obtain ⟨v4, e4, f4⟩ := hdep 4 _ 21 (by kernel_rfl) rfl rfl
        obtain rfl := (f4.2.2.2.2.1 rfl).symm
        obtain ⟨v9, e9, f9⟩ := hdep 9 _ 26 (by kernel_rfl) rfl rfl
        obtain rfl := (f9.2.2.2.2.2.2.2.2.2.1 rfl).symm
        rw [if_pos (by rfl)]
        have hkk := HKK.out
        go_simp
        exact hK.out _ _ hg ⟨nn,nn,nn,nn,nn,nn,nn,nn,nn,nn, fun _ => rfl, nn,nn,nn,nn,nn,nn,nn,nn,nn,nn,nn,nn,nn,nn,nn,nn,nn,nn,nn,nn,nn,nn,nn,nn,nn,nn,nn⟩ (fun _ _ h => h)
       case s11 =>
        intro a w' hoff hg hdep K hK
        obtain ⟨v10, e10, f10⟩ := hdep 10 _ 27 (by kernel_rfl) rfl rfl
        obtain rfl := (f10.2.2.2.2.2.2.2.2.2.2.1 rfl).symm
        rw [if_pos (by rfl)]
        go_simp
        exact hK.out _ _ hg ⟨nn,nn,nn,nn,nn,nn,nn,nn,nn,nn,nn, fun _ => rfl, nn,nn,nn,nn,nn,nn,nn,nn,nn,nn,nn,nn,nn,nn,nn,nn,nn,nn,nn,nn,nn,nn,nn,nn,nn,nn⟩ (fun _ _ h => h)
       case s12 =>
        intro a w' hoff hg hdep K hK
        have h0 := off_at hoff 0 (v := .slice (some ⟨lb, lo, none⟩) l.length ac) (by kernel_rfl) rfl
        obtain ⟨v11, e11, f11⟩ := hdep 11 _ 28 (by kernel_rfl) rfl rfl
        obtain rfl := (f11.2.2.2.2.2.2.2.2.2.2.2.1 rfl).symm
        rw [if_pos (by simp [Region.wanted, yielded, e11])]
        go_simp
        exact hK.out _ _ hg ⟨nn,nn,nn,nn,nn,nn,nn,nn,nn,nn,nn,nn, fun _ => rfl, nn,nn,nn,nn,nn,nn,nn,nn,nn,nn,nn,nn,nn,nn,nn,nn,nn,nn,nn,nn,nn,nn,nn,nn,nn⟩ (fun _ _ h => h)
       case s13 =>
        intro a w' hoff hg hdep K hK
        have h5 := off_at hoff 5 (v := .int .i64 (k : Int)) (by kernel_rfl) rfl
        obtain ⟨v11, e11, f11⟩ := hdep 11 _ 28 (by kernel_rfl) rfl rfl
        obtain rfl := (f11.2.2.2.2.2.2.2.2.2.2.2.1 rfl).symm
        rw [if_pos (by simp [Region.wanted, yielded, e11])]
        go_simp
        exact hK.out _ _ hg ⟨nn,nn,nn,nn,nn,nn,nn,nn,nn,nn,nn,nn,nn, fun _ => rfl, nn,nn,nn,nn,nn,nn,nn,nn,nn,nn,nn,nn,nn,nn,nn,nn,nn,nn,nn,nn,nn,nn,nn,nn⟩ (fun _ _ h => h)
       case s14 =>
        intro a w' hoff hg hdep K hK
        obtain ⟨v12, e12, f12⟩ := hdep 12 _ 29 (by kernel_rfl) rfl rfl
        obtain rfl := (f12.2.2.2.2.2.2.2.2.2.2.2.2.1 rfl).symm
        obtain ⟨v13, e13, f13⟩ := hdep 13 _ 30 (by kernel_rfl) rfl rfl
        obtain rfl := (f13.2.2.2.2.2.2.2.2.2.2.2.2.2.1 rfl).symm
        obtain ⟨v11, e11, f11⟩ := hdep 11 _ 28 (by kernel_rfl) rfl rfl
        obtain rfl := (f11.2.2.2.2.2.2.2.2.2.2.2.1 rfl).symm
        have hk1 := HK1.out; have hk2 := HK2.out
        rw [if_pos (by simp [Region.wanted, yielded, e11])]
        go_simp
        exact hK.out _ _ hg ⟨nn,nn,nn,nn,nn,nn,nn,nn,nn,nn,nn,nn,nn,nn, fun _ => rfl, nn,nn,nn,nn,nn,nn,nn,nn,nn,nn,nn,nn,nn,nn,nn,nn,nn,nn,nn,nn,nn,nn,nn⟩ (fun _ _ h => h)
       case s15 =>
        intro a w' hoff hg hdep K hK
        obtain ⟨v14, e14, f14⟩ := hdep 14 _ 31 (by kernel_rfl) rfl rfl
        obtain rfl := (f14.2.2.2.2.2.2.2.2.2.2.2.2.2.2.1 rfl).symm
        obtain ⟨v11, e11, f11⟩ := hdep 11 _ 28 (by kernel_rfl) rfl rfl
        obtain rfl := (f11.2.2.2.2.2.2.2.2.2.2.2.1 rfl).symm
        rw [if_pos (by simp [Region.wanted, yielded, e11])]
        go_simp
        exact hK.out _ _ hg ⟨nn,nn,nn,nn,nn,nn,nn,nn,nn,nn,nn,nn,nn,nn,nn, fun _ => rfl, nn,nn,nn,nn,nn,nn,nn,nn,nn,nn,nn,nn,nn,nn,nn,nn,nn,nn,nn,nn,nn,nn⟩ (fun _ _ h => h)
       case s16 =>
        intro a w' hoff hg hdep K hK
        obtain ⟨v15, e15, f15⟩ := hdep 15 _ 32 (by kernel_rfl) rfl rfl
        obtain rfl := (f15.2.2.2.2.2.2.2.2.2.2.2.2.2.2.2.1 rfl).symm
        obtain ⟨v11, e11, f11⟩ := hdep 11 _ 28 (by kernel_rfl) rfl rfl
        obtain rfl := (f11.2.2.2.2.2.2.2.2.2.2.2.1 rfl).symm
        rw [if_pos (by simp [Region.wanted, yielded, e11])]
        have q0 := (hg.cell (p := ⟨lb, lo + k * 3, none⟩) HLB.out).trans Q0.out; have q1 := (hg.cell (p := ⟨lb, lo + k * 3 + 1, none⟩) HLB.out).trans Q1.out; have q2 := (hg.cell (p := ⟨lb, lo + k * 3 + 2, none⟩) HLB.out).trans Q2.out; have p0 := (hg.cell (p := ⟨mb, mo + k * 3, none⟩) HMB.out).trans P0.out; have p1 := (hg.cell (p := ⟨mb, mo + k * 3 + 1, none⟩) HMB.out).trans P1.out; have p2 := (hg.cell (p := ⟨mb, mo + k * 3 + 2, none⟩) HMB.out).trans P2.out
        go_simp
        exact hK.out _ _ hg ⟨nn,nn,nn,nn,nn,nn,nn,nn,nn,nn,nn,nn,nn,nn,nn,nn, fun _ => rfl, nn,nn,nn,nn,nn,nn,nn,nn,nn,nn,nn,nn,nn,nn,nn,nn,nn,nn,nn,nn,nn⟩ (fun _ _ h => h)
       case s17 =>
        intro a w' hoff hg hdep K hK
        have h1 := off_at hoff 1 (v := .slice (some ⟨mb, mo, none⟩) m.length bc) (by kernel_rfl) rfl
        obtain ⟨v11, e11, f11⟩ := hdep 11 _ 28 (by kernel_rfl) rfl rfl
        obtain rfl := (f11.2.2.2.2.2.2.2.2.2.2.2.1 rfl).symm
        rw [if_pos (by simp [Region.wanted, yielded, e11])]
        go_simp
        exact hK.out _ _ hg ⟨nn,nn,nn,nn,nn,nn,nn,nn,nn,nn,nn,nn,nn,nn,nn,nn,nn, fun _ => rfl, nn,nn,nn,nn,nn,nn,nn,nn,nn,nn,nn,nn,nn,nn,nn,nn,nn,nn,nn,nn⟩ (fun _ _ h => h)
       case s18 =>
        intro a w' hoff hg hdep K hK
        have h5 := off_at hoff 5 (v := .int .i64 (k : Int)) (by kernel_rfl) rfl
        obtain ⟨v11, e11, f11⟩ := hdep 11 _ 28 (by kernel_rfl) rfl rfl
        obtain rfl := (f11.2.2.2.2.2.2.2.2.2.2.2.1 rfl).symm
        rw [if_pos (by simp [Region.wanted, yielded, e11])]
        go_simp
        exact hK.out _ _ hg ⟨nn,nn,nn,nn,nn,nn,nn,nn,nn,nn,nn,nn,nn,nn,nn,nn,nn,nn, fun _ => rfl, nn,nn,nn,nn,nn,nn,nn,nn,nn,nn,nn,nn,nn,nn,nn,nn,nn,nn,nn⟩ (fun _ _ h => h)
       case s19 =>
        intro a w' hoff hg hdep K hK
        obtain ⟨v17, e17, f17⟩ := hdep 17 _ 34 (by kernel_rfl) rfl rfl
        obtain rfl := (f17.2.2.2.2.2.2.2.2.2.2.2.2.2.2.2.2.2.1 rfl).symm
        obtain ⟨v18, e18, f18⟩ := hdep 18 _ 35 (by kernel_rfl) rfl rfl
        obtain rfl := (f18.2.2.2.2.2.2.2.2.2.2.2.2.2.2.2.2.2.2.1 rfl).symm
        obtain ⟨v11, e11, f11⟩ := hdep 11 _ 28 (by kernel_rfl) rfl rfl
        obtain rfl := (f11.2.2.2.2.2.2.2.2.2.2.2.1 rfl).symm
        have hk1 := HK1.out; have hk3 := HK3.out
        rw [if_pos (by simp [Region.wanted, yielded, e11])]
        go_simp
        exact hK.out _ _ hg ⟨nn,nn,nn,nn,nn,nn,nn,nn,nn,nn,nn,nn,nn,nn,nn,nn,nn,nn,nn, fun _ => rfl, nn,nn,nn,nn,nn,nn,nn,nn,nn,nn,nn,nn,nn,nn,nn,nn,nn,nn⟩ (fun _ _ h => h)
       case s20 =>
        intro a w' hoff hg hdep K hK
        obtain ⟨v19, e19, f19⟩ := hdep 19 _ 36 (by kernel_rfl) rfl rfl
        obtain rfl := (f19.2.2.2.2.2.2.2.2.2.2.2.2.2.2.2.2.2.2.2.1 rfl).symm
        obtain ⟨v11, e11, f11⟩ := hdep 11 _ 28 (by kernel_rfl) rfl rfl
        obtain rfl := (f11.2.2.2.2.2.2.2.2.2.2.2.1 rfl).symm
        rw [if_pos (by simp [Region.wanted, yielded, e11])]
        go_simp
        exact hK.out _ _ hg ⟨nn,nn,nn,nn,nn,nn,nn,nn,nn,nn,nn,nn,nn,nn,nn,nn,nn,nn,nn,nn, fun _ => rfl, nn,nn,nn,nn,nn,nn,nn,nn,nn,nn,nn,nn,nn,nn,nn,nn,nn⟩ (fun _ _ h => h)
       case s21 =>
        intro a w' hoff hg hdep K hK
        obtain ⟨v20, e20, f20⟩ := hdep 20 _ 37 (by kernel_rfl) rfl rfl
        obtain rfl := (f20.2.2.2.2.2.2.2.2.2.2.2.2.2.2.2.2.2.2.2.2.1 rfl).symm
        obtain ⟨v11, e11, f11⟩ := hdep 11 _ 28 (by kernel_rfl) rfl rfl
        obtain rfl := (f11.2.2.2.2.2.2.2.2.2.2.2.1 rfl).symm
        rw [if_pos (by simp [Region.wanted, yielded, e11])]
        have q0 := (hg.cell (p := ⟨lb, lo + k * 3, none⟩) HLB.out).trans Q0.out; have q1 := (hg.cell (p := ⟨lb, lo + k * 3 + 1, none⟩) HLB.out).trans Q1.out; have q2 := (hg.cell (p := ⟨lb, lo + k * 3 + 2, none⟩) HLB.out).trans Q2.out; have p0 := (hg.cell (p := ⟨mb, mo + k * 3, none⟩) HMB.out).trans P0.out; have p1 := (hg.cell (p := ⟨mb, mo + k * 3 + 1, none⟩) HMB.out).trans P1.out; have p2 := (hg.cell (p := ⟨mb, mo + k * 3 + 2, none⟩) HMB.out).trans P2.out
        go_simp
        exact hK.out _ _ hg ⟨nn,nn,nn,nn,nn,nn,nn,nn,nn,nn,nn,nn,nn,nn,nn,nn,nn,nn,nn,nn,nn, fun _ => rfl, nn,nn,nn,nn,nn,nn,nn,nn,nn,nn,nn,nn,nn,nn,nn,nn⟩ (fun _ _ h => h)
       case s22 =>
        intro a w' hoff hg hdep K hK
        obtain ⟨v16, e16, f16⟩ := hdep 16 _ 33 (by kernel_rfl) rfl rfl
        obtain rfl := (f16.2.2.2.2.2.2.2.2.2.2.2.2.2.2.2.2.1 rfl).symm
        obtain ⟨v21, e21, f21⟩ := hdep 21 _ 38 (by kernel_rfl) rfl rfl
        obtain rfl := (f21.2.2.2.2.2.2.2.2.2.2.2.2.2.2.2.2.2.2.2.2.2.1 rfl).symm
        obtain ⟨v11, e11, f11⟩ := hdep 11 _ 28 (by kernel_rfl) rfl rfl
        obtain rfl := (f11.2.2.2.2.2.2.2.2.2.2.2.1 rfl).symm
        rw [if_pos (by simp [Region.wanted, yielded, e11])]
        have hnn := HNN.out
        go_simp
        exact hK.out _ _ hg ⟨nn,nn,nn,nn,nn,nn,nn,nn,nn,nn,nn,nn,nn,nn,nn,nn,nn,nn,nn,nn,nn,nn, fun _ => rfl, nn,nn,nn,nn,nn,nn,nn,nn,nn,nn,nn,nn,nn,nn,nn⟩ (fun _ _ h => h)
       case s23 =>
        intro a w' hoff hg hdep K hK
        obtain ⟨v11, e11, f11⟩ := hdep 11 _ 28 (by kernel_rfl) rfl rfl
        obtain rfl := (f11.2.2.2.2.2.2.2.2.2.2.2.1 rfl).symm
        obtain ⟨v22, e22, f22⟩ := hdep 22 _ 39 (by kernel_rfl) rfl rfl
        obtain rfl := (f22.2.2.2.2.2.2.2.2.2.2.2.2.2.2.2.2.2.2.2.2.2.2.1 rfl).symm
        rw [if_pos (by rfl)]
        go_simp
        exact hK.out _ _ hg ⟨nn,nn,nn,nn,nn,nn,nn,nn,nn,nn,nn,nn,nn,nn,nn,nn,nn,nn,nn,nn,nn,nn,nn, fun _ => rfl, nn,nn,nn,nn,nn,nn,nn,nn,nn,nn,nn,nn,nn,nn⟩ (fun _ _ h => h)
       case s24 =>
        intro a w' hoff hg hdep K hK
        obtain ⟨v23, e23, f23⟩ := hdep 23 _ 40 (by kernel_rfl) rfl rfl
        obtain rfl := (f23.2.2.2.2.2.2.2.2.2.2.2.2.2.2.2.2.2.2.2.2.2.2.2.1 rfl).symm
        rw [if_pos (by rfl)]
        go_simp
        exact hK.out _ _ hg ⟨nn,nn,nn,nn,nn,nn,nn,nn,nn,nn,nn,nn,nn,nn,nn,nn,nn,nn,nn,nn,nn,nn,nn,nn, fun _ => rfl, nn,nn,nn,nn,nn,nn,nn,nn,nn,nn,nn,nn,nn⟩ (fun _ _ h => h)
       case s25 =>
        intro a w' hoff hg hdep K hK
        have h0 := off_at hoff 0 (v := .slice (some ⟨lb, lo, none⟩) l.length ac) (by kernel_rfl) rfl
        obtain ⟨v24, e24, f24⟩ := hdep 24 _ 41 (by kernel_rfl) rfl rfl
        obtain rfl := (f24.2.2.2.2.2.2.2.2.2.2.2.2.2.2.2.2.2.2.2.2.2.2.2.2.1 rfl).symm
        rw [if_pos (by simp [Region.wanted, yielded, e24])]
        go_simp
        exact hK.out _ _ hg ⟨nn,nn,nn,nn,nn,nn,nn,nn,nn,nn,nn,nn,nn,nn,nn,nn,nn,nn,nn,nn,nn,nn,nn,nn,nn, fun _ => rfl, nn,nn,nn,nn,nn,nn,nn,nn,nn,nn,nn,nn⟩ (fun _ _ h => h)
       case s26 =>
        intro a w' hoff hg hdep K hK
        have h5 := off_at hoff 5 (v := .int .i64 (k : Int)) (by kernel_rfl) rfl
        obtain ⟨v24, e24, f24⟩ := hdep 24 _ 41 (by kernel_rfl) rfl rfl
        obtain rfl := (f24.2.2.2.2.2.2.2.2.2.2.2.2.2.2.2.2.2.2.2.2.2.2.2.2.1 rfl).symm
        rw [if_pos (by simp [Region.wanted, yielded, e24])]
        go_simp
        exact hK.out _ _ hg ⟨nn,nn,nn,nn,nn,nn,nn,nn,nn,nn,nn,nn,nn,nn,nn,nn,nn,nn,nn,nn,nn,nn,nn,nn,nn,nn, fun _ => rfl, nn,nn,nn,nn,nn,nn,nn,nn,nn,nn,nn⟩ (fun _ _ h => h)
       case s27 =>
        intro a w' hoff hg hdep K hK
        obtain ⟨v25, e25, f25⟩ := hdep 25 _ 42 (by kernel_rfl) rfl rfl
        obtain rfl := (f25.2.2.2.2.2.2.2.2.2.2.2.2.2.2.2.2.2.2.2.2.2.2.2.2.2.1 rfl).symm
        obtain ⟨v26, e26, f26⟩ := hdep 26 _ 43 (by kernel_rfl) rfl rfl
        obtain rfl := (f26.2.2.2.2.2.2.2.2.2.2.2.2.2.2.2.2.2.2.2.2.2.2.2.2.2.2.1 rfl).symm
        obtain ⟨v24, e24, f24⟩ := hdep 24 _ 41 (by kernel_rfl) rfl rfl
        obtain rfl := (f24.2.2.2.2.2.2.2.2.2.2.2.2.2.2.2.2.2.2.2.2.2.2.2.2.1 rfl).symm
        have hk1 := HK1.out; have hk2 := HK2.out
        rw [if_pos (by simp [Region.wanted, yielded, e24])]
        go_simp
        exact hK.out _ _ hg ⟨nn,nn,nn,nn,nn,nn,nn,nn,nn,nn,nn,nn,nn,nn,nn,nn,nn,nn,nn,nn,nn,nn,nn,nn,nn,nn,nn, fun _ => rfl, nn,nn,nn,nn,nn,nn,nn,nn,nn,nn⟩ (fun _ _ h => h)
       case s28 =>
        intro a w' hoff hg hdep K hK
        obtain ⟨v27, e27, f27⟩ := hdep 27 _ 44 (by kernel_rfl) rfl rfl
        obtain rfl := (f27.2.2.2.2.2.2.2.2.2.2.2.2.2.2.2.2.2.2.2.2.2.2.2.2.2.2.2.1 rfl).symm
        obtain ⟨v24, e24, f24⟩ := hdep 24 _ 41 (by kernel_rfl) rfl rfl
        obtain rfl := (f24.2.2.2.2.2.2.2.2.2.2.2.2.2.2.2.2.2.2.2.2.2.2.2.2.1 rfl).symm
        rw [if_pos (by simp [Region.wanted, yielded, e24])]
        go_simp
        exact hK.out _ _ hg ⟨nn,nn,nn,nn,nn,nn,nn,nn,nn,nn,nn,nn,nn,nn,nn,nn,nn,nn,nn,nn,nn,nn,nn,nn,nn,nn,nn,nn, fun _ => rfl, nn,nn,nn,nn,nn,nn,nn,nn,nn⟩ (fun _ _ h => h)
       case s29 =>
        intro a w' hoff hg hdep K hK
        obtain ⟨v28, e28, f28⟩ := hdep 28 _ 45 (by kernel_rfl) rfl rfl
        obtain rfl := (f28.2.2.2.2.2.2.2.2.2.2.2.2.2.2.2.2.2.2.2.2.2.2.2.2.2.2.2.2.1 rfl).symm
        obtain ⟨v24, e24, f24⟩ := hdep 24 _ 41 (by kernel_rfl) rfl rfl
        obtain rfl := (f24.2.2.2.2.2.2.2.2.2.2.2.2.2.2.2.2.2.2.2.2.2.2.2.2.1 rfl).symm
        rw [if_pos (by simp [Region.wanted, yielded, e24])]
        have q0 := (hg.cell (p := ⟨lb, lo + k * 3, none⟩) HLB.out).trans Q0.out; have q1 := (hg.cell (p := ⟨lb, lo + k * 3 + 1, none⟩) HLB.out).trans Q1.out; have q2 := (hg.cell (p := ⟨lb, lo + k * 3 + 2, none⟩) HLB.out).trans Q2.out; have p0 := (hg.cell (p := ⟨mb, mo + k * 3, none⟩) HMB.out).trans P0.out; have p1 := (hg.cell (p := ⟨mb, mo + k * 3 + 1, none⟩) HMB.out).trans P1.out; have p2 := (hg.cell (p := ⟨mb, mo + k * 3 + 2, none⟩) HMB.out).trans P2.out
        go_simp
        exact hK.out _ _ hg ⟨nn,nn,nn,nn,nn,nn,nn,nn,nn,nn,nn,nn,nn,nn,nn,nn,nn,nn,nn,nn,nn,nn,nn,nn,nn,nn,nn,nn,nn, fun _ => rfl, nn,nn,nn,nn,nn,nn,nn,nn⟩ (fun _ _ h => h)
       case s30 =>
        intro a w' hoff hg hdep K hK
        have h1 := off_at hoff 1 (v := .slice (some ⟨mb, mo, none⟩) m.length bc) (by kernel_rfl) rfl
        obtain ⟨v24, e24, f24⟩ := hdep 24 _ 41 (by kernel_rfl) rfl rfl
        obtain rfl := (f24.2.2.2.2.2.2.2.2.2.2.2.2.2.2.2.2.2.2.2.2.2.2.2.2.1 rfl).symm
        rw [if_pos (by simp [Region.wanted, yielded, e24])]
        go_simp
        exact hK.out _ _ hg ⟨nn,nn,nn,nn,nn,nn,nn,nn,nn,nn,nn,nn,nn,nn,nn,nn,nn,nn,nn,nn,nn,nn,nn,nn,nn,nn,nn,nn,nn,nn, fun _ => rfl, nn,nn,nn,nn,nn,nn,nn⟩ (fun _ _ h => h)
       case s31 =>
        intro a w' hoff hg hdep K hK
        have h5 := off_at hoff 5 (v := .int .i64 (k : Int)) (by kernel_rfl) rfl
        obtain ⟨v24, e24, f24⟩ := hdep 24 _ 41 (by kernel_rfl) rfl rfl
        obtain rfl := (f24.2.2.2.2.2.2.2.2.2.2.2.2.2.2.2.2.2.2.2.2.2.2.2.2.1 rfl).symm
        rw [if_pos (by simp [Region.wanted, yielded, e24])]
        go_simp
        exact hK.out _ _ hg ⟨nn,nn,nn,nn,nn,nn,nn,nn,nn,nn,nn,nn,nn,nn,nn,nn,nn,nn,nn,nn,nn,nn,nn,nn,nn,nn,nn,nn,nn,nn,nn, fun _ => rfl, nn,nn,nn,nn,nn,nn⟩ (fun _ _ h => h)
       case s32 =>
        intro a w' hoff hg hdep K hK
        obtain ⟨v30, e30, f30⟩ := hdep 30 _ 47 (by kernel_rfl) rfl rfl
        obtain rfl := (f30.2.2.2.2.2.2.2.2.2.2.2.2.2.2.2.2.2.2.2.2.2.2.2.2.2.2.2.2.2.2.1 rfl).symm
        obtain ⟨v31, e31, f31⟩ := hdep 31 _ 48 (by kernel_rfl) rfl rfl
        obtain rfl := (f31.2.2.2.2.2.2.2.2.2.2.2.2.2.2.2.2.2.2.2.2.2.2.2.2.2.2.2.2.2.2.2.1 rfl).symm
        obtain ⟨v24, e24, f24⟩ := hdep 24 _ 41 (by kernel_rfl) rfl rfl
        obtain rfl := (f24.2.2.2.2.2.2.2.2.2.2.2.2.2.2.2.2.2.2.2.2.2.2.2.2.1 rfl).symm
        have hk1 := HK1.out; have hk3 := HK3.out
        rw [if_pos (by simp [Region.wanted, yielded, e24])]
        go_simp
        exact hK.out _ _ hg ⟨nn,nn,nn,nn,nn,nn,nn,nn,nn,nn,nn,nn,nn,nn,nn,nn,nn,nn,nn,nn,nn,nn,nn,nn,nn,nn,nn,nn,nn,nn,nn,nn, fun _ => rfl, nn,nn,nn,nn,nn⟩ (fun _ _ h => h)
       case s33 =>
        intro a w' hoff hg hdep K hK
        obtain ⟨v32, e32, f32⟩ := hdep 32 _ 49 (by kernel_rfl) rfl rfl
        obtain rfl := (f32.2.2.2.2.2.2.2.2.2.2.2.2.2.2.2.2.2.2.2.2.2.2.2.2.2.2.2.2.2.2.2.2.1 rfl).symm
        obtain ⟨v24, e24, f24⟩ := hdep 24 _ 41 (by kernel_rfl) rfl rfl
        obtain rfl := (f24.2.2.2.2.2.2.2.2.2.2.2.2.2.2.2.2.2.2.2.2.2.2.2.2.1 rfl).symm
        rw [if_pos (by simp [Region.wanted, yielded, e24])]
        go_simp
        exact hK.out _ _ hg ⟨nn,nn,nn,nn,nn,nn,nn,nn,nn,nn,nn,nn,nn,nn,nn,nn,nn,nn,nn,nn,nn,nn,nn,nn,nn,nn,nn,nn,nn,nn,nn,nn,nn, fun _ => rfl, nn,nn,nn,nn⟩ (fun _ _ h => h)
       case s34 =>
        intro a w' hoff hg hdep K hK
        obtain ⟨v33, e33, f33⟩ := hdep 33 _ 50 (by kernel_rfl) rfl rfl
        obtain rfl := (f33.2.2.2.2.2.2.2.2.2.2.2.2.2.2.2.2.2.2.2.2.2.2.2.2.2.2.2.2.2.2.2.2.2.1 rfl).symm
        obtain ⟨v24, e24, f24⟩ := hdep 24 _ 41 (by kernel_rfl) rfl rfl
        obtain rfl := (f24.2.2.2.2.2.2.2.2.2.2.2.2.2.2.2.2.2.2.2.2.2.2.2.2.1 rfl).symm
        rw [if_pos (by simp [Region.wanted, yielded, e24])]
        have q0 := (hg.cell (p := ⟨lb, lo + k * 3, none⟩) HLB.out).trans Q0.out; have q1 := (hg.cell (p := ⟨lb, lo + k * 3 + 1, none⟩) HLB.out).trans Q1.out; have q2 := (hg.cell (p := ⟨lb, lo + k * 3 + 2, none⟩) HLB.out).trans Q2.out; have p0 := (hg.cell (p := ⟨mb, mo + k * 3, none⟩) HMB.out).trans P0.out; have p1 := (hg.cell (p := ⟨mb, mo + k * 3 + 1, none⟩) HMB.out).trans P1.out; have p2 := (hg.cell (p := ⟨mb, mo + k * 3 + 2, none⟩) HMB.out).trans P2.out
        go_simp
        exact hK.out _ _ hg ⟨nn,nn,nn,nn,nn,nn,nn,nn,nn,nn,nn,nn,nn,nn,nn,nn,nn,nn,nn,nn,nn,nn,nn,nn,nn,nn,nn,nn,nn,nn,nn,nn,nn,nn, fun _ => rfl, nn,nn,nn⟩ (fun _ _ h => h)
       case s35 =>
        intro a w' hoff hg hdep K hK
        obtain ⟨v29, e29, f29⟩ := hdep 29 _ 46 (by kernel_rfl) rfl rfl
        obtain rfl := (f29.2.2.2.2.2.2.2.2.2.2.2.2.2.2.2.2.2.2.2.2.2.2.2.2.2.2.2.2.2.1 rfl).symm
        obtain ⟨v34, e34, f34⟩ := hdep 34 _ 51 (by kernel_rfl) rfl rfl
        obtain rfl := (f34.2.2.2.2.2.2.2.2.2.2.2.2.2.2.2.2.2.2.2.2.2.2.2.2.2.2.2.2.2.2.2.2.2.2.1 rfl).symm
        obtain ⟨v24, e24, f24⟩ := hdep 24 _ 41 (by kernel_rfl) rfl rfl
        obtain rfl := (f24.2.2.2.2.2.2.2.2.2.2.2.2.2.2.2.2.2.2.2.2.2.2.2.2.1 rfl).symm
        rw [if_pos (by simp [Region.wanted, yielded, e24])]
        go_simp
        refine (sameTms_any x.args y.args S w' _ _ (fun j hj => Nat.lt_of_lt_of_le (HSR.out j hj) hg.size) (RepMs.on (fun _ h => h) (fun j hj => hg.block j (HSR.out j hj)) GX.out.2.2.2.2) (RepMs.on (fun _ h => h) (fun j hj => hg.block j (HSR.out j hj)) GY.out.2.2.2.2)).mono ?_
        rw [HV2.out]
        rintro e w2' ⟨rfl, hb⟩
        exact hK.out _ _ (Below.step hg hb) ⟨nn,nn,nn,nn,nn,nn,nn,nn,nn,nn,nn,nn,nn,nn,nn,nn,nn,nn,nn,nn,nn,nn,nn,nn,nn,nn,nn,nn,nn,nn,nn,nn,nn,nn,nn, fun _ => rfl, nn,nn⟩ (fun _ _ h => ⟨h.1, h.2.1, h.2.2.1, h.2.2.2.1, h.2.2.2.2.1, h.2.2.2.2.2.1, h.2.2.2.2.2.2.1, h.2.2.2.2.2.2.2.1, h.2.2.2.2.2.2.2.2.1, h.2.2.2.2.2.2.2.2.2.1, h.2.2.2.2.2.2.2.2.2.2.1, h.2.2.2.2.2.2.2.2.2.2.2.1, h.2.2.2.2.2.2.2.2.2.2.2.2.1, h.2.2.2.2.2.2.2.2.2.2.2.2.2.1, h.2.2.2.2.2.2.2.2.2.2.2.2.2.2.1, h.2.2.2.2.2.2.2.2.2.2.2.2.2.2.2.1, h.2.2.2.2.2.2.2.2.2.2.2.2.2.2.2.2.1, h.2.2.2.2.2.2.2.2.2.2.2.2.2.2.2.2.2.1, h.2.2.2.2.2.2.2.2.2.2.2.2.2.2.2.2.2.2.1, h.2.2.2.2.2.2.2.2.2.2.2.2.2.2.2.2.2.2.2.1, h.2.2.2.2.2.2.2.2.2.2.2.2.2.2.2.2.2.2.2.2.1, h.2.2.2.2.2.2.2.2.2.2.2.2.2.2.2.2.2.2.2.2.2.1, h.2.2.2.2.2.2.2.2.2.2.2.2.2.2.2.2.2.2.2.2.2.2.1, h.2.2.2.2.2.2.2.2.2.2.2.2.2.2.2.2.2.2.2.2.2.2.2.1, h.2.2.2.2.2.2.2.2.2.2.2.2.2.2.2.2.2.2.2.2.2.2.2.2.1, h.2.2.2.2.2.2.2.2.2.2.2.2.2.2.2.2.2.2.2.2.2.2.2.2.2.1, h.2.2.2.2.2.2.2.2.2.2.2.2.2.2.2.2.2.2.2.2.2.2.2.2.2.2.1, h.2.2.2.2.2.2.2.2.2.2.2.2.2.2.2.2.2.2.2.2.2.2.2.2.2.2.2.1, h.2.2.2.2.2.2.2.2.2.2.2.2.2.2.2.2.2.2.2.2.2.2.2.2.2.2.2.2.1, h.2.2.2.2.2.2.2.2.2.2.2.2.2.2.2.2.2.2.2.2.2.2.2.2.2.2.2.2.2.1, h.2.2.2.2.2.2.2.2.2.2.2.2.2.2.2.2.2.2.2.2.2.2.2.2.2.2.2.2.2.2.1, h.2.2.2.2.2.2.2.2.2.2.2.2.2.2.2.2.2.2.2.2.2.2.2.2.2.2.2.2.2.2.2.1, h.2.2.2.2.2.2.2.2.2.2.2.2.2.2.2.2.2.2.2.2.2.2.2.2.2.2.2.2.2.2.2.2.1, h.2.2.2.2.2.2.2.2.2.2.2.2.2.2.2.2.2.2.2.2.2.2.2.2.2.2.2.2.2.2.2.2.2.1, h.2.2.2.2.2.2.2.2.2.2.2.2.2.2.2.2.2.2.2.2.2.2.2.2.2.2.2.2.2.2.2.2.2.2.1, h.2.2.2.2.2.2.2.2.2.2.2.2.2.2.2.2.2.2.2.2.2.2.2.2.2.2.2.2.2.2.2.2.2.2.2.1, h.2.2.2.2.2.2.2.2.2.2.2.2.2.2.2.2.2.2.2.2.2.2.2.2.2.2.2.2.2.2.2.2.2.2.2.2.1, h.2.2.2.2.2.2.2.2.2.2.2.2.2.2.2.2.2.2.2.2.2.2.2.2.2.2.2.2.2.2.2.2.2.2.2.2.2⟩)
       case s36 =>
        intro a w' hoff hg hdep K hK
        obtain ⟨v35, e35, f35⟩ := hdep 35 _ 52 (by kernel_rfl) rfl rfl
        obtain rfl := (f35.2.2.2.2.2.2.2.2.2.2.2.2.2.2.2.2.2.2.2.2.2.2.2.2.2.2.2.2.2.2.2.2.2.2.2.1 rfl).symm
        obtain ⟨v24, e24, f24⟩ := hdep 24 _ 41 (by kernel_rfl) rfl rfl
        obtain rfl := (f24.2.2.2.2.2.2.2.2.2.2.2.2.2.2.2.2.2.2.2.2.2.2.2.2.1 rfl).symm
        rw [if_pos (by simp [Region.wanted, yielded, e24])]
        go_simp
        exact hK.out _ _ hg ⟨nn,nn,nn,nn,nn,nn,nn,nn,nn,nn,nn,nn,nn,nn,nn,nn,nn,nn,nn,nn,nn,nn,nn,nn,nn,nn,nn,nn,nn,nn,nn,nn,nn,nn,nn,nn, fun _ => rfl, nn⟩ (fun _ _ h => h)
       case s37 =>
        intro a w' hoff hg hdep K hK
        obtain ⟨v24, e24, f24⟩ := hdep 24 _ 41 (by kernel_rfl) rfl rfl
        obtain rfl := (f24.2.2.2.2.2.2.2.2.2.2.2.2.2.2.2.2.2.2.2.2.2.2.2.2.1 rfl).symm
        obtain ⟨v36, e36, f36⟩ := hdep 36 _ 53 (by kernel_rfl) rfl rfl
        obtain rfl := (f36.2.2.2.2.2.2.2.2.2.2.2.2.2.2.2.2.2.2.2.2.2.2.2.2.2.2.2.2.2.2.2.2.2.2.2.2.1 rfl).symm
        rw [if_pos (by rfl)]
        go_simp
        exact hK.out _ _ hg ⟨nn,nn,nn,nn,nn,nn,nn,nn,nn,nn,nn,nn,nn,nn,nn,nn,nn,nn,nn,nn,nn,nn,nn,nn,nn,nn,nn,nn,nn,nn,nn,nn,nn,nn,nn,nn,nn, fun _ => rfl⟩ (fun _ _ h => h)
       case fin =>
        intro a w9 hoff hg hf
        obtain ⟨v0, e0, f0⟩ := hf 0 _ 17 rfl rfl
        obtain rfl := (f0.1 rfl).symm
        obtain ⟨v1, e1, f1⟩ := hf 1 _ 18 rfl rfl
        obtain rfl := (f1.2.1 rfl).symm
        obtain ⟨v2, e2, f2⟩ := hf 2 _ 19 rfl rfl
        obtain rfl := (f2.2.2.1 rfl).symm
        obtain ⟨v3, e3, f3⟩ := hf 3 _ 20 rfl rfl
        obtain rfl := (f3.2.2.2.1 rfl).symm
        obtain ⟨v4, e4, f4⟩ := hf 4 _ 21 rfl rfl
        obtain rfl := (f4.2.2.2.2.1 rfl).symm
        obtain ⟨v5, e5, f5⟩ := hf 5 _ 22 rfl rfl
        obtain rfl := (f5.2.2.2.2.2.1 rfl).symm
        obtain ⟨v6, e6, f6⟩ := hf 6 _ 23 rfl rfl
        obtain rfl := (f6.2.2.2.2.2.2.1 rfl).symm
        obtain ⟨v7, e7, f7⟩ := hf 7 _ 24 rfl rfl
        obtain rfl := (f7.2.2.2.2.2.2.2.1 rfl).symm
        obtain ⟨v8, e8, f8⟩ := hf 8 _ 25 rfl rfl
        obtain rfl := (f8.2.2.2.2.2.2.2.2.1 rfl).symm
        obtain ⟨v9, e9, f9⟩ := hf 9 _ 26 rfl rfl
        obtain rfl := (f9.2.2.2.2.2.2.2.2.2.1 rfl).symm
        obtain ⟨v10, e10, f10⟩ := hf 10 _ 27 rfl rfl
        obtain rfl := (f10.2.2.2.2.2.2.2.2.2.2.1 rfl).symm
        obtain ⟨v11, e11, f11⟩ := hf 11 _ 28 rfl rfl
        obtain rfl := (f11.2.2.2.2.2.2.2.2.2.2.2.1 rfl).symm
        obtain ⟨v12, e12, f12⟩ := hf 12 _ 29 rfl rfl
        obtain rfl := (f12.2.2.2.2.2.2.2.2.2.2.2.2.1 rfl).symm
        obtain ⟨v13, e13, f13⟩ := hf 13 _ 30 rfl rfl
        obtain rfl := (f13.2.2.2.2.2.2.2.2.2.2.2.2.2.1 rfl).symm
        obtain ⟨v14, e14, f14⟩ := hf 14 _ 31 rfl rfl
        obtain rfl := (f14.2.2.2.2.2.2.2.2.2.2.2.2.2.2.1 rfl).symm
        obtain ⟨v15, e15, f15⟩ := hf 15 _ 32 rfl rfl
        obtain rfl := (f15.2.2.2.2.2.2.2.2.2.2.2.2.2.2.2.1 rfl).symm
        obtain ⟨v16, e16, f16⟩ := hf 16 _ 33 rfl rfl
        obtain rfl := (f16.2.2.2.2.2.2.2.2.2.2.2.2.2.2.2.2.1 rfl).symm
        obtain ⟨v17, e17, f17⟩ := hf 17 _ 34 rfl rfl
        obtain rfl := (f17.2.2.2.2.2.2.2.2.2.2.2.2.2.2.2.2.2.1 rfl).symm
        obtain ⟨v18, e18, f18⟩ := hf 18 _ 35 rfl rfl
        obtain rfl := (f18.2.2.2.2.2.2.2.2.2.2.2.2.2.2.2.2.2.2.1 rfl).symm
        obtain ⟨v19, e19, f19⟩ := hf 19 _ 36 rfl rfl
        obtain rfl := (f19.2.2.2.2.2.2.2.2.2.2.2.2.2.2.2.2.2.2.2.1 rfl).symm
        obtain ⟨v20, e20, f20⟩ := hf 20 _ 37 rfl rfl
        obtain rfl := (f20.2.2.2.2.2.2.2.2.2.2.2.2.2.2.2.2.2.2.2.2.1 rfl).symm
        obtain ⟨v21, e21, f21⟩ := hf 21 _ 38 rfl rfl
        obtain rfl := (f21.2.2.2.2.2.2.2.2.2.2.2.2.2.2.2.2.2.2.2.2.2.1 rfl).symm
        obtain ⟨v22, e22, f22⟩ := hf 22 _ 39 rfl rfl
        obtain rfl := (f22.2.2.2.2.2.2.2.2.2.2.2.2.2.2.2.2.2.2.2.2.2.2.1 rfl).symm
        obtain ⟨v23, e23, f23⟩ := hf 23 _ 40 rfl rfl
        obtain rfl := (f23.2.2.2.2.2.2.2.2.2.2.2.2.2.2.2.2.2.2.2.2.2.2.2.1 rfl).symm
        obtain ⟨v24, e24, f24⟩ := hf 24 _ 41 rfl rfl
        obtain rfl := (f24.2.2.2.2.2.2.2.2.2.2.2.2.2.2.2.2.2.2.2.2.2.2.2.2.1 rfl).symm
        obtain ⟨v25, e25, f25⟩ := hf 25 _ 42 rfl rfl
        obtain rfl := (f25.2.2.2.2.2.2.2.2.2.2.2.2.2.2.2.2.2.2.2.2.2.2.2.2.2.1 rfl).symm
        obtain ⟨v26, e26, f26⟩ := hf 26 _ 43 rfl rfl
        obtain rfl := (f26.2.2.2.2.2.2.2.2.2.2.2.2.2.2.2.2.2.2.2.2.2.2.2.2.2.2.1 rfl).symm
        obtain ⟨v27, e27, f27⟩ := hf 27 _ 44 rfl rfl
        obtain rfl := (f27.2.2.2.2.2.2.2.2.2.2.2.2.2.2.2.2.2.2.2.2.2.2.2.2.2.2.2.1 rfl).symm
        obtain ⟨v28, e28, f28⟩ := hf 28 _ 45 rfl rfl
        obtain rfl := (f28.2.2.2.2.2.2.2.2.2.2.2.2.2.2.2.2.2.2.2.2.2.2.2.2.2.2.2.2.1 rfl).symm
        obtain ⟨v29, e29, f29⟩ := hf 29 _ 46 rfl rfl
        obtain rfl := (f29.2.2.2.2.2.2.2.2.2.2.2.2.2.2.2.2.2.2.2.2.2.2.2.2.2.2.2.2.2.1 rfl).symm
        obtain ⟨v30, e30, f30⟩ := hf 30 _ 47 rfl rfl
        obtain rfl := (f30.2.2.2.2.2.2.2.2.2.2.2.2.2.2.2.2.2.2.2.2.2.2.2.2.2.2.2.2.2.2.1 rfl).symm
        obtain ⟨v31, e31, f31⟩ := hf 31 _ 48 rfl rfl
        obtain rfl := (f31.2.2.2.2.2.2.2.2.2.2.2.2.2.2.2.2.2.2.2.2.2.2.2.2.2.2.2.2.2.2.2.1 rfl).symm
        obtain ⟨v32, e32, f32⟩ := hf 32 _ 49 rfl rfl
        obtain rfl := (f32.2.2.2.2.2.2.2.2.2.2.2.2.2.2.2.2.2.2.2.2.2.2.2.2.2.2.2.2.2.2.2.2.1 rfl).symm
        obtain ⟨v33, e33, f33⟩ := hf 33 _ 50 rfl rfl
        obtain rfl := (f33.2.2.2.2.2.2.2.2.2.2.2.2.2.2.2.2.2.2.2.2.2.2.2.2.2.2.2.2.2.2.2.2.2.1 rfl).symm
        obtain ⟨v34, e34, f34⟩ := hf 34 _ 51 rfl rfl
        obtain rfl := (f34.2.2.2.2.2.2.2.2.2.2.2.2.2.2.2.2.2.2.2.2.2.2.2.2.2.2.2.2.2.2.2.2.2.2.1 rfl).symm
        obtain ⟨v35, e35, f35⟩ := hf 35 _ 52 rfl rfl
        obtain rfl := (f35.2.2.2.2.2.2.2.2.2.2.2.2.2.2.2.2.2.2.2.2.2.2.2.2.2.2.2.2.2.2.2.2.2.2.2.1 rfl).symm
        obtain ⟨v36, e36, f36⟩ := hf 36 _ 53 rfl rfl
        obtain rfl := (f36.2.2.2.2.2.2.2.2.2.2.2.2.2.2.2.2.2.2.2.2.2.2.2.2.2.2.2.2.2.2.2.2.2.2.2.2.1 rfl).symm
        obtain ⟨v37, e37, f37⟩ := hf 37 _ 54 rfl rfl
        obtain rfl := (f37.2.2.2.2.2.2.2.2.2.2.2.2.2.2.2.2.2.2.2.2.2.2.2.2.2.2.2.2.2.2.2.2.2.2.2.2.2 rfl).symm
        rw [hoff.sets [(17, .slice (some ⟨lb, lo, none⟩) l.length ac), (18, .int .i64 (k : Int)), (19, .pointer (some ⟨lb, lo + k * 3, none⟩)), (20, .pointer (some ⟨lb, lo + k * 3, none⟩)), (21, .int .i64 x.kind), (22, .slice (some ⟨mb, mo, none⟩) m.length bc), (23, .int .i64 (k : Int)), (24, .pointer (some ⟨mb, mo + k * 3, none⟩)), (25, .pointer (some ⟨mb, mo + k * 3, none⟩)), (26, .int .i64 y.kind), (27, .bool false), (28, .bool false), (29, .slice (some ⟨lb, lo, none⟩) l.length ac), (30, .int .i64 (k : Int)), (31, .pointer (some ⟨lb, lo + k * 3, none⟩)), (32, .pointer (some ⟨lb, lo + k * 3 + 1, none⟩)), (33, .string x.name), (34, .slice (some ⟨mb, mo, none⟩) m.length bc), (35, .int .i64 (k : Int)), (36, .pointer (some ⟨mb, mo + k * 3, none⟩)), (37, .pointer (some ⟨mb, mo + k * 3 + 1, none⟩)), (38, .string y.name), (39, .bool false), (40, .bool false), (41, .bool false), (42, .slice (some ⟨lb, lo, none⟩) l.length ac), (43, .int .i64 (k : Int)), (44, .pointer (some ⟨lb, lo + k * 3, none⟩)), (45, .pointer (some ⟨lb, lo + k * 3 + 2, none⟩)), (46, .slice xa x.args.length xd), (47, .slice (some ⟨mb, mo, none⟩) m.length bc), (48, .int .i64 (k : Int)), (49, .pointer (some ⟨mb, mo + k * 3, none⟩)), (50, .pointer (some ⟨mb, mo + k * 3 + 2, none⟩)), (51, .slice ya y.args.length yd), (52, .bool true), (53, .bool false), (54, .bool false)] (by kernel_rfl) (by intro p hp; simp only [List.mem_cons, List.not_mem_nil, or_false] at hp; rcases hp with rfl | rfl | rfl | rfl | rfl | rfl | rfl | rfl | rfl | rfl | rfl | rfl | rfl | rfl | rfl | rfl | rfl | rfl | rfl | rfl | rfl | rfl | rfl | rfl | rfl | rfl | rfl | rfl | rfl | rfl | rfl | rfl | rfl | rfl | rfl | rfl | rfl | rfl <;> assumption)]
        clear hoff hf e0 f0 e1 f1 e2 f2 e3 f3 e4 f4 e5 f5 e6 f6 e7 f7 e8 f8 e9 f9 e10 f10 e11 f11 e12 f12 e13 f13 e14 f14 e15 f15 e16 f16 e17 f17 e18 f18 e19 f19 e20 f20 e21 f21 e22 f22 e23 f23 e24 f24 e25 f25 e26 f26 e27 f27 e28 f28 e29 f29 e30 f30 e31 f31 e32 f32 e33 f33 e34 f34 e35 f35 e36 f36 e37 f37
        simp only [List.foldl_cons, List.foldl_nil, List.setIfInBounds_toArray, List.set_cons_zero, List.set_cons_succ]
        have HB10 := Lib.hid (Below.step HBEL.out hg)
        clear hg
        go_wp2_with fail
        go_roundw
        case rel => exact ⟨k + 1, by omega, by go_num, HNX.out, HB10.out⟩
        case measure => simp [intOf]; omega
     ·have HKK : Hid ((x.kind != y.kind) = false) := Lib.hid (by simp [hke])
      have HNN : Hid ((x.name.toList == y.name.toList) = false) := Lib.hid (by
       cases e : (x.name.toList == y.name.toList) with
       | false => rfl
       | true => exact absurd (toList_inj (by simpa using e)) hne)
      have HF1 : Hid (¬ l = m) := by
       show ¬ _
       intro e
       exact hne (HEX.out.1 (HDR.out.1 (HREC.out.1 e)).1).2.1
      clear hke hne
      go_wp2_with fail
      refine wp_region_factsG (by rfl) 55 (by rfl) (by kernel_rfl) (fun wz iz vz => (iz = 0 → vz = .slice (some ⟨lb, lo, none⟩) l.length ac) ∧ (iz = 1 → vz = .int .i64 (k : Int)) ∧ (iz = 2 → vz = .pointer (some ⟨lb, lo + k * 3, none⟩)) ∧ (iz = 3 → vz = .pointer (some ⟨lb, lo + k * 3, none⟩)) ∧ (iz = 4 → vz = .int .i64 x.kind) ∧ (iz = 5 → vz = .slice (some ⟨mb, mo, none⟩) m.length bc) ∧ (iz = 6 → vz = .int .i64 (k : Int)) ∧ (iz = 7 → vz = .pointer (some ⟨mb, mo + k * 3, none⟩)) ∧ (iz = 8 → vz = .pointer (some ⟨mb, mo + k * 3, none⟩)) ∧ (iz = 9 → vz = .int .i64 y.kind) ∧ (iz = 10 → vz = .bool false) ∧ (iz = 11 → vz = .bool false) ∧ (iz = 12 → vz = .slice (some ⟨lb, lo, none⟩) l.length ac) ∧ (iz = 13 → vz = .int .i64 (k : Int)) ∧ (iz = 14 → vz = .pointer (some ⟨lb, lo + k * 3, none⟩)) ∧ (iz = 15 → vz = .pointer (some ⟨lb, lo + k * 3 + 1, none⟩)) ∧ (iz = 16 → vz = .string x.name) ∧ (iz = 17 → vz = .slice (some ⟨mb, mo, none⟩) m.length bc) ∧ (iz = 18 → vz = .int .i64 (k : Int)) ∧ (iz = 19 → vz = .pointer (some ⟨mb, mo + k * 3, none⟩)) ∧ (iz = 20 → vz = .pointer (some ⟨mb, mo + k * 3 + 1, none⟩)) ∧ (iz = 21 → vz = .string y.name) ∧ (iz = 22 → vz = .bool true) ∧ (iz = 23 → vz = .bool true) ∧ (iz = 24 → vz = .bool true) ∧ (iz = 37 → vz = .bool true)) (fun w' => Below wr.heap.size wr w') (Below.drew (Below.refl _ _)) ⟨?s0, ?s1, ?s2, ?s3, ?s4, ?s5, ?s6, ?s7, ?s8, ?s9, ?s10, ?s11, ?s12, ?s13, ?s14, ?s15, ?s16, ?s17, ?s18, ?s19, ?s20, ?s21, ?s22, ?s23, ?s24, ?s25, ?s26, ?s27, ?s28, ?s29, ?s30, ?s31, ?s32, ?s33, ?s34, ?s35, ?s36, ?s37, trivial⟩ ?fin
      case s0 =>
       intro a w' hoff hg hdep K hK
       have h0 := off_at hoff 0 (v := .slice (some ⟨lb, lo, none⟩) l.length ac) (by kernel_rfl) rfl
       rw [if_pos (by rfl)]
       go_simp
       exact hK.out _ _ hg ⟨fun _ => rfl, nn,nn,nn,nn,nn,nn,nn,nn,nn,nn,nn,nn,nn,nn,nn,nn,nn,nn,nn,nn,nn,nn,nn,nn,nn⟩ (fun _ _ h => h)
      case s1 =>
       intro a w' hoff hg hdep K hK
       have h5 := off_at hoff 5 (v := .int .i64 (k : Int)) (by kernel_rfl) rfl
       rw [if_pos (by rfl)]
       go_simp
       exact hK.out _ _ hg ⟨nn, fun _ => rfl, nn,nn,nn,nn,nn,nn,nn,nn,nn,nn,nn,nn,nn,nn,nn,nn,nn,nn,nn,nn,nn,nn,nn,nn⟩ (fun _ _ h => h)
      case s2 =>
       intro a w' hoff hg hdep K hK
       obtain ⟨v0, e0, f0⟩ := hdep 0 _ 17 (by kernel_rfl) rfl rfl
       obtain rfl := (f0.1 rfl).symm
       obtain ⟨v1, e1, f1⟩ := hdep 1 _ 18 (by kernel_rfl) rfl rfl
       obtain rfl := (f1.2.1 rfl).symm
       have hk1 := HK1.out; have hk2 := HK2.out
       rw [if_pos (by rfl)]
       go_simp
       exact hK.out _ _ hg ⟨nn,nn, fun _ => rfl, nn,nn,nn,nn,nn,nn,nn,nn,nn,nn,nn,nn,nn,nn,nn,nn,nn,nn,nn,nn,nn,nn,nn⟩ (fun _ _ h => h)
      case s3 =>
       intro a w' hoff hg hdep K hK
       obtain ⟨v2, e2, f2⟩ := hdep 2 _ 19 (by kernel_rfl) rfl rfl
       obtain rfl := (f2.2.2.1 rfl).symm
       rw [if_pos (by rfl)]
       go_simp
       exact hK.out _ _ hg ⟨nn,nn,nn, fun _ => rfl, nn,nn,nn,nn,nn,nn,nn,nn,nn,nn,nn,nn,nn,nn,nn,nn,nn,nn,nn,nn,nn,nn⟩ (fun _ _ h => h)
      case s4 =>
       intro a w' hoff hg hdep K hK
       obtain ⟨v3, e3, f3⟩ := hdep 3 _ 20 (by kernel_rfl) rfl rfl
       obtain rfl := (f3.2.2.2.1 rfl).symm
       rw [if_pos (by rfl)]
       have q0 := (hg.cell (p := ⟨lb, lo + k * 3, none⟩) HLB.out).trans Q0.out; have q1 := (hg.cell (p := ⟨lb, lo + k * 3 + 1, none⟩) HLB.out).trans Q1.out; have q2 := (hg.cell (p := ⟨lb, lo + k * 3 + 2, none⟩) HLB.out).trans Q2.out; have p0 := (hg.cell (p := ⟨mb, mo + k * 3, none⟩) HMB.out).trans P0.out; have p1 := (hg.cell (p := ⟨mb, mo + k * 3 + 1, none⟩) HMB.out).trans P1.out; have p2 := (hg.cell (p := ⟨mb, mo + k * 3 + 2, none⟩) HMB.out).trans P2.out
       go_simp
       exact hK.out _ _ hg ⟨nn,nn,nn,nn, fun _ => rfl, nn,nn,nn,nn,nn,nn,nn,nn,nn,nn,nn,nn,nn,nn,nn,nn,nn,nn,nn,nn,nn⟩ (fun _ _ h => h)
      case s5 =>
       intro a w' hoff hg hdep K hK
       have h1 := off_at hoff 1 (v := .slice (some ⟨mb, mo, none⟩) m.length bc) (by kernel_rfl) rfl
       rw [if_pos (by rfl)]
       go_simp
       exact hK.out _ _ hg ⟨nn,nn,nn,nn,nn, fun _ => rfl, nn,nn,nn,nn,nn,nn,nn,nn,nn,nn,nn,nn,nn,nn,nn,nn,nn,nn,nn,nn⟩ (fun _ _ h => h)
      case s6 =>
       intro a w' hoff hg hdep K hK
       have h5 := off_at hoff 5 (v := .int .i64 (k : Int)) (by kernel_rfl) rfl
       rw [if_pos (by rfl)]
       go_simp
       exact hK.out _ _ hg ⟨nn,nn,nn,nn,nn,nn, fun _ => rfl, nn,nn,nn,nn,nn,nn,nn,nn,nn,nn,nn,nn,nn,nn,nn,nn,nn,nn,nn⟩ (fun _ _ h => h)
      case s7 =>
       intro a w' hoff hg hdep K hK
       obtain ⟨v5, e5, f5⟩ := hdep 5 _ 22 (by kernel_rfl) rfl rfl
       obtain rfl := (f5.2.2.2.2.2.1 rfl).symm
       obtain ⟨v6, e6, f6⟩ := hdep 6 _ 23 (by kernel_rfl) rfl rfl
       obtain rfl := (f6.2.2.2.2.2.2.1 rfl).symm
       have hk1 := HK1.out; have hk3 := HK3.out
       rw [if_pos (by rfl)]
       go_simp
       exact hK.out _ _ hg ⟨nn,nn,nn,nn,nn,nn,nn, fun _ => rfl, nn,nn,nn,nn,nn,nn,nn,nn,nn,nn,nn,nn,nn,nn,nn,nn,nn,nn⟩ (fun _ _ h => h)
      case s8 =>
       intro a w' hoff hg hdep K hK
       obtain ⟨v7, e7, f7⟩ := hdep 7 _ 24 (by kernel_rfl) rfl rfl
       obtain rfl := (f7.2.2.2.2.2.2.2.1 rfl).symm
       rw [if_pos (by rfl)]
       go_simp
       exact hK.out _ _ hg ⟨nn,nn,nn,nn,nn,nn,nn,nn, fun _ => rfl, nn,nn,nn,nn,nn,nn,nn,nn,nn,nn,nn,nn,nn,nn,nn,nn,nn⟩ (fun _ _ h => h)
      case s9 =>
       intro a w' hoff hg hdep K hK
       obtain ⟨v8, e8, f8⟩ := hdep 8 _ 25 (by kernel_rfl) rfl rfl
       obtain rfl := (f8.2.2.2.2.2.2.2.2.1 rfl).symm
       rw [if_pos (by rfl)]
       have q0 := (hg.cell (p := ⟨lb, lo + k * 3, none⟩) HLB.out).trans Q0.out; have q1 := (hg.cell (p := ⟨lb, lo + k * 3 + 1, none⟩) HLB.out).trans Q1.out; have q2 := (hg.cell (p := ⟨lb, lo + k * 3 + 2, none⟩) HLB.out).trans Q2.out; have p0 := (hg.cell (p := ⟨mb, mo + k * 3, none⟩) HMB.out).trans P0.out; have p1 := (hg.cell (p := ⟨mb, mo + k * 3 + 1, none⟩) HMB.out).trans P1.out; have p2 := (hg.cell (p := ⟨mb, mo + k * 3 + 2, none⟩) HMB.out).trans P2.out
       go_simp
       exact hK.out _ _ hg ⟨nn,nn,nn,nn,nn,nn,nn,nn,nn, fun _ => rfl, nn,nn,nn,nn,nn,nn,nn,nn,nn,nn,nn,nn,nn,nn,nn,nn⟩ (fun _ _ h => h)
      case s10 =>
       intro a w' hoff hg hdep K hK
       obtain ⟨v4, e4, f4⟩ := hdep 4 _ 21 (by kernel_rfl) rfl rfl
       obtain rfl := (f4.2.2.2.2.1 rfl).symm
       obtain ⟨v9, e9, f9⟩ := hdep 9 _ 26 (by kernel_rfl) rfl rfl
       obtain rfl := (f9.2.2.2.2.2.2.2.2.2.1 rfl).symm
       rw [if_pos (by rfl)]
       have hkk := HKK.out
       go_simp
       exact hK.out _ _ hg ⟨nn,nn,nn,nn,nn,nn,nn,nn,nn,nn, fun _ => rfl, nn,nn,nn,nn,nn,nn,nn,nn,nn,nn,nn,nn,nn,nn,nn⟩ (fun _ _ h => h)
      case s11 =>
       intro a w' hoff hg hdep K hK
       obtain ⟨v10, e10, f10⟩ := hdep 10 _ 27 (by kernel_rfl) rfl rfl
       obtain rfl := (f10.2.2.2.2.2.2.2.2.2.2.1 rfl).symm
       rw [if_pos (by rfl)]
       go_simp
       exact hK.out _ _ hg ⟨nn,nn,nn,nn,nn,nn,nn,nn,nn,nn,nn, fun _ => rfl, nn,nn,nn,nn,nn,nn,nn,nn,nn,nn,nn,nn,nn,nn⟩ (fun _ _ h => h)
      case s12 =>
       intro a w' hoff hg hdep K hK
       have h0 := off_at hoff 0 (v := .slice (some ⟨lb, lo, none⟩) l.length ac) (by kernel_rfl) rfl
       obtain ⟨v11, e11, f11⟩ := hdep 11 _ 28 (by kernel_rfl) rfl rfl
       obtain rfl := (f11.2.2.2.2.2.2.2.2.2.2.2.1 rfl).symm
       rw [if_pos (by simp [Region.wanted, yielded, e11])]
       go_simp
       exact hK.out _ _ hg ⟨nn,nn,nn,nn,nn,nn,nn,nn,nn,nn,nn,nn, fun _ => rfl, nn,nn,nn,nn,nn,nn,nn,nn,nn,nn,nn,nn,nn⟩ (fun _ _ h => h)
      case s13 =>
       intro a w' hoff hg hdep K hK
       have h5 := off_at hoff 5 (v := .int .i64 (k : Int)) (by kernel_rfl) rfl
       obtain ⟨v11, e11, f11⟩ := hdep 11 _ 28 (by kernel_rfl) rfl rfl
       obtain rfl := (f11.2.2.2.2.2.2.2.2.2.2.2.1 rfl).symm
       rw [if_pos (by simp [Region.wanted, yielded, e11])]
       go_simp
       exact hK.out _ _ hg ⟨nn,nn,nn,nn,nn,nn,nn,nn,nn,nn,nn,nn,nn, fun _ => rfl, nn,nn,nn,nn,nn,nn,nn,nn,nn,nn,nn,nn⟩ (fun _ _ h => h)
      case s14 =>
       intro a w' hoff hg hdep K hK
       obtain ⟨v12, e12, f12⟩ := hdep 12 _ 29 (by kernel_rfl) rfl rfl
       obtain rfl := (f12.2.2.2.2.2.2.2.2.2.2.2.2.1 rfl).symm
       obtain ⟨v13, e13, f13⟩ := hdep 13 _ 30 (by kernel_rfl) rfl rfl
       obtain rfl := (f13.2.2.2.2.2.2.2.2.2.2.2.2.2.1 rfl).symm
       obtain ⟨v11, e11, f11⟩ := hdep 11 _ 28 (by kernel_rfl) rfl rfl
       obtain rfl := (f11.2.2.2.2.2.2.2.2.2.2.2.1 rfl).symm
       have hk1 := HK1.out; have hk2 := HK2.out
       rw [if_pos (by simp [Region.wanted, yielded, e11])]
       go_simp
       exact hK.out _ _ hg ⟨nn,nn,nn,nn,nn,nn,nn,nn,nn,nn,nn,nn,nn,nn, fun _ => rfl, nn,nn,nn,nn,nn,nn,nn,nn,nn,nn,nn⟩ (fun _ _ h => h)
      case s15 =>
       intro a w' hoff hg hdep K hK
       obtain ⟨v14, e14, f14⟩ := hdep 14 _ 31 (by kernel_rfl) rfl rfl
       obtain rfl := (f14.2.2.2.2.2.2.2.2.2.2.2.2.2.2.1 rfl).symm
       obtain ⟨v11, e11, f11⟩ := hdep 11 _ 28 (by kernel_rfl) rfl rfl
       obtain rfl := (f11.2.2.2.2.2.2.2.2.2.2.2.1 rfl).symm
       rw [if_pos (by simp [Region.wanted, yielded, e11])]
       go_simp
       exact hK.out _ _ hg ⟨nn,nn,nn,nn,nn,nn,nn,nn,nn,nn,nn,nn,nn,nn,nn, fun _ => rfl, nn,nn,nn,nn,nn,nn,nn,nn,nn,nn⟩ (fun _ _ h => h)
      case s16 =>
       intro a w' hoff hg hdep K hK
       obtain ⟨v15, e15, f15⟩ := hdep 15 _ 32 (by kernel_rfl) rfl rfl
       obtain rfl := (f15.2.2.2.2.2.2.2.2.2.2.2.2.2.2.2.1 rfl).symm
       obtain ⟨v11, e11, f11⟩ := hdep 11 _ 28 (by kernel_rfl) rfl rfl
       obtain rfl := (f11.2.2.2.2.2.2.2.2.2.2.2.1 rfl).symm
       rw [if_pos (by simp [Region.wanted, yielded, e11])]
       have q0 := (hg.cell (p := ⟨lb, lo + k * 3, none⟩) HLB.out).trans Q0.out; have q1 := (hg.cell (p := ⟨lb, lo + k * 3 + 1, none⟩) HLB.out).trans Q1.out; have q2 := (hg.cell (p := ⟨lb, lo + k * 3 + 2, none⟩) HLB.out).trans Q2.out; have p0 := (hg.cell (p := ⟨mb, mo + k * 3, none⟩) HMB.out).trans P0.out; have p1 := (hg.cell (p := ⟨mb, mo + k * 3 + 1, none⟩) HMB.out).trans P1.out; have p2 := (hg.cell (p := ⟨mb, mo + k * 3 + 2, none⟩) HMB.out).trans P2.out
       go_simp
       exact hK.out _ _ hg ⟨nn,nn,nn,nn,nn,nn,nn,nn,nn,nn,nn,nn,nn,nn,nn,nn, fun _ => rfl, nn,nn,nn,nn,nn,nn,nn,nn,nn⟩ (fun _ _ h => h)
      case s17 =>
       intro a w' hoff hg hdep K hK
       have h1 := off_at hoff 1 (v := .slice (some ⟨mb, mo, none⟩) m.length bc) (by kernel_rfl) rfl
       obtain ⟨v11, e11, f11⟩ := hdep 11 _ 28 (by kernel_rfl) rfl rfl
       obtain rfl := (f11.2.2.2.2.2.2.2.2.2.2.2.1 rfl).symm
       rw [if_pos (by simp [Region.wanted, yielded, e11])]
       go_simp
       exact hK.out _ _ hg ⟨nn,nn,nn,nn,nn,nn,nn,nn,nn,nn,nn,nn,nn,nn,nn,nn,nn, fun _ => rfl, nn,nn,nn,nn,nn,nn,nn,nn⟩ (fun _ _ h => h)
      case s18 =>
       intro a w' hoff hg hdep K hK
       have h5 := off_at hoff 5 (v := .int .i64 (k : Int)) (by kernel_rfl) rfl
       obtain ⟨v11, e11, f11⟩ := hdep 11 _ 28 (by kernel_rfl) rfl rfl
       obtain rfl := (f11.2.2.2.2.2.2.2.2.2.2.2.1 rfl).symm
       rw [if_pos (by simp [Region.wanted, yielded, e11])]
       go_simp
       exact hK.out _ _ hg ⟨nn,nn,nn,nn,nn,nn,nn,nn,nn,nn,nn,nn,nn,nn,nn,nn,nn,nn, fun _ => rfl, nn,nn,nn,nn,nn,nn,nn⟩ (fun _ _ h => h)
      case s19 =>
       intro a w' hoff hg hdep K hK
       obtain ⟨v17, e17, f17⟩ := hdep 17 _ 34 (by kernel_rfl) rfl rfl
       obtain rfl := (f17.2.2.2.2.2.2.2.2.2.2.2.2.2.2.2.2.2.1 rfl).symm
       obtain ⟨v18, e18, f18⟩ := hdep 18 _ 35 (by kernel_rfl) rfl rfl
       obtain rfl := (f18.2.2.2.2.2.2.2.2.2.2.2.2.2.2.2.2.2.2.1 rfl).symm
       obtain ⟨v11, e11, f11⟩ := hdep 11 _ 28 (by kernel_rfl) rfl rfl
       obtain rfl := (f11.2.2.2.2.2.2.2.2.2.2.2.1 rfl).symm
       have hk1 := HK1.out; have hk3 := HK3.out
       rw [if_pos (by simp [Region.wanted, yielded, e11])]
       go_simp
       exact hK.out _ _ hg ⟨nn,nn,nn,nn,nn,nn,nn,nn,nn,nn,nn,nn,nn,nn,nn,nn,nn,nn,nn, fun _ => rfl, nn,nn,nn,nn,nn,nn⟩ (fun _ _ h => h)
      case s20 =>
       intro a w' hoff hg hdep K hK
       obtain ⟨v19, e19, f19⟩ := hdep 19 _ 36 (by kernel_rfl) rfl rfl
       obtain rfl := (f19.2.2.2.2.2.2.2.2.2.2.2.2.2.2.2.2.2.2.2.1 rfl).symm
       obtain ⟨v11, e11, f11⟩ := hdep 11 _ 28 (by kernel_rfl) rfl rfl
       obtain rfl := (f11.2.2.2.2.2.2.2.2.2.2.2.1 rfl).symm
       rw [if_pos (by simp [Region.wanted, yielded, e11])]
       go_simp
       exact hK.out _ _ hg ⟨nn,nn,nn,nn,nn,nn,nn,nn,nn,nn,nn,nn,nn,nn,nn,nn,nn,nn,nn,nn, fun _ => rfl, nn,nn,nn,nn,nn⟩ (fun _ _ h => h)
      case s21 =>
       intro a w' hoff hg hdep K hK
       obtain ⟨v20, e20, f20⟩ := hdep 20 _ 37 (by kernel_rfl) rfl rfl
       obtain rfl := (f20.2.2.2.2.2.2.2.2.2.2.2.2.2.2.2.2.2.2.2.2.1 rfl).symm
       obtain ⟨v11, e11, f11⟩ := hdep 11 _ 28 (by kernel_rfl) rfl rfl
       obtain rfl := (f11.2.2.2.2.2.2.2.2.2.2.2.1 rfl).symm
       rw [if_pos (by simp [Region.wanted, yielded, e11])]
       have q0 := (hg.cell (p := ⟨lb, lo + k * 3, none⟩) HLB.out).trans Q0.out; have q1 := (hg.cell (p := ⟨lb, lo + k * 3 + 1, none⟩) HLB.out).trans Q1.out; have q2 := (hg.cell (p := ⟨lb, lo + k * 3 + 2, none⟩) HLB.out).trans Q2.out; have p0 := (hg.cell (p := ⟨mb, mo + k * 3, none⟩) HMB.out).trans P0.out; have p1 := (hg.cell (p := ⟨mb, mo + k * 3 + 1, none⟩) HMB.out).trans P1.out; have p2 := (hg.cell (p := ⟨mb, mo + k * 3 + 2, none⟩) HMB.out).trans P2.out
       go_simp
       exact hK.out _ _ hg ⟨nn,nn,nn,nn,nn,nn,nn,nn,nn,nn,nn,nn,nn,nn,nn,nn,nn,nn,nn,nn,nn, fun _ => rfl, nn,nn,nn,nn⟩ (fun _ _ h => h)
      case s22 =>
       intro a w' hoff hg hdep K hK
       obtain ⟨v16, e16, f16⟩ := hdep 16 _ 33 (by kernel_rfl) rfl rfl
       obtain rfl := (f16.2.2.2.2.2.2.2.2.2.2.2.2.2.2.2.2.1 rfl).symm
       obtain ⟨v21, e21, f21⟩ := hdep 21 _ 38 (by kernel_rfl) rfl rfl
       obtain rfl := (f21.2.2.2.2.2.2.2.2.2.2.2.2.2.2.2.2.2.2.2.2.2.1 rfl).symm
       obtain ⟨v11, e11, f11⟩ := hdep 11 _ 28 (by kernel_rfl) rfl rfl
       obtain rfl := (f11.2.2.2.2.2.2.2.2.2.2.2.1 rfl).symm
       rw [if_pos (by simp [Region.wanted, yielded, e11])]
       have hnn := HNN.out
       go_simp
       exact hK.out _ _ hg ⟨nn,nn,nn,nn,nn,nn,nn,nn,nn,nn,nn,nn,nn,nn,nn,nn,nn,nn,nn,nn,nn,nn, fun _ => rfl, nn,nn,nn⟩ (fun _ _ h => h)
      case s23 =>
       intro a w' hoff hg hdep K hK
       obtain ⟨v11, e11, f11⟩ := hdep 11 _ 28 (by kernel_rfl) rfl rfl
       obtain rfl := (f11.2.2.2.2.2.2.2.2.2.2.2.1 rfl).symm
       obtain ⟨v22, e22, f22⟩ := hdep 22 _ 39 (by kernel_rfl) rfl rfl
       obtain rfl := (f22.2.2.2.2.2.2.2.2.2.2.2.2.2.2.2.2.2.2.2.2.2.2.1 rfl).symm
       rw [if_pos (by rfl)]
       go_simp
       exact hK.out _ _ hg ⟨nn,nn,nn,nn,nn,nn,nn,nn,nn,nn,nn,nn,nn,nn,nn,nn,nn,nn,nn,nn,nn,nn,nn, fun _ => rfl, nn,nn⟩ (fun _ _ h => h)
      case s24 =>
       intro a w' hoff hg hdep K hK
       obtain ⟨v23, e23, f23⟩ := hdep 23 _ 40 (by kernel_rfl) rfl rfl
       obtain rfl := (f23.2.2.2.2.2.2.2.2.2.2.2.2.2.2.2.2.2.2.2.2.2.2.2.1 rfl).symm
       rw [if_pos (by rfl)]
       go_simp
       exact hK.out _ _ hg ⟨nn,nn,nn,nn,nn,nn,nn,nn,nn,nn,nn,nn,nn,nn,nn,nn,nn,nn,nn,nn,nn,nn,nn,nn, fun _ => rfl, nn⟩ (fun _ _ h => h)
      case s25 =>
       intro a w' hoff hg hdep K hK
       obtain ⟨v24, e24, f24⟩ := hdep 24 _ 41 (by kernel_rfl) rfl rfl
       obtain rfl := (f24.2.2.2.2.2.2.2.2.2.2.2.2.2.2.2.2.2.2.2.2.2.2.2.2.1 rfl).symm
       rw [if_neg (by simp [Region.wanted, yielded, e24])]
       exact hK.out _ _ hg ⟨nn,nn,nn,nn,nn,nn,nn,nn,nn,nn,nn,nn,nn,nn,nn,nn,nn,nn,nn,nn,nn,nn,nn,nn,nn,nn⟩ (fun _ _ h => h)
      case s26 =>
       intro a w' hoff hg hdep K hK
       obtain ⟨v24, e24, f24⟩ := hdep 24 _ 41 (by kernel_rfl) rfl rfl
       obtain rfl := (f24.2.2.2.2.2.2.2.2.2.2.2.2.2.2.2.2.2.2.2.2.2.2.2.2.1 rfl).symm
       rw [if_neg (by simp [Region.wanted, yielded, e24])]
       exact hK.out _ _ hg ⟨nn,nn,nn,nn,nn,nn,nn,nn,nn,nn,nn,nn,nn,nn,nn,nn,nn,nn,nn,nn,nn,nn,nn,nn,nn,nn⟩ (fun _ _ h => h)
      case s27 =>
       intro a w' hoff hg hdep K hK
       obtain ⟨v24, e24, f24⟩ := hdep 24 _ 41 (by kernel_rfl) rfl rfl
       obtain rfl := (f24.2.2.2.2.2.2.2.2.2.2.2.2.2.2.2.2.2.2.2.2.2.2.2.2.1 rfl).symm
       rw [if_neg (by simp [Region.wanted, yielded, e24])]
       exact hK.out _ _ hg ⟨nn,nn,nn,nn,nn,nn,nn,nn,nn,nn,nn,nn,nn,nn,nn,nn,nn,nn,nn,nn,nn,nn,nn,nn,nn,nn⟩ (fun _ _ h => h)
      case s28 =>
       intro a w' hoff hg hdep K hK
       obtain ⟨v24, e24, f24⟩ := hdep 24 _ 41 (by kernel_rfl) rfl rfl
       obtain rfl := (f24.2.2.2.2.2.2.2.2.2.2.2.2.2.2.2.2.2.2.2.2.2.2.2.2.1 rfl).symm
       rw [if_neg (by simp [Region.wanted, yielded, e24])]
       exact hK.out _ _ hg ⟨nn,nn,nn,nn,nn,nn,nn,nn,nn,nn,nn,nn,nn,nn,nn,nn,nn,nn,nn,nn,nn,nn,nn,nn,nn,nn⟩ (fun _ _ h => h)
      case s29 =>
       intro a w' hoff hg hdep K hK
       obtain ⟨v24, e24, f24⟩ := hdep 24 _ 41 (by kernel_rfl) rfl rfl
       obtain rfl := (f24.2.2.2.2.2.2.2.2.2.2.2.2.2.2.2.2.2.2.2.2.2.2.2.2.1 rfl).symm
       rw [if_neg (by simp [Region.wanted, yielded, e24])]
       exact hK.out _ _ hg ⟨nn,nn,nn,nn,nn,nn,nn,nn,nn,nn,nn,nn,nn,nn,nn,nn,nn,nn,nn,nn,nn,nn,nn,nn,nn,nn⟩ (fun _ _ h => h)
      case s30 =>
       intro a w' hoff hg hdep K hK
       obtain ⟨v24, e24, f24⟩ := hdep 24 _ 41 (by kernel_rfl) rfl rfl
       obtain rfl := (f24.2.2.2.2.2.2.2.2.2.2.2.2.2.2.2.2.2.2.2.2.2.2.2.2.1 rfl).symm
       rw [if_neg (by simp [Region.wanted, yielded, e24])]
       exact hK.out _ _ hg ⟨nn,nn,nn,nn,nn,nn,nn,nn,nn,nn,nn,nn,nn,nn,nn,nn,nn,nn,nn,nn,nn,nn,nn,nn,nn,nn⟩ (fun _ _ h => h)
      case s31 =>
       intro a w' hoff hg hdep K hK
       obtain ⟨v24, e24, f24⟩ := hdep 24 _ 41 (by kernel_rfl) rfl rfl
       obtain rfl := (f24.2.2.2.2.2.2.2.2.2.2.2.2.2.2.2.2.2.2.2.2.2.2.2.2.1 rfl).symm
       rw [if_neg (by simp [Region.wanted, yielded, e24])]
       exact hK.out _ _ hg ⟨nn,nn,nn,nn,nn,nn,nn,nn,nn,nn,nn,nn,nn,nn,nn,nn,nn,nn,nn,nn,nn,nn,nn,nn,nn,nn⟩ (fun _ _ h => h)
      case s32 =>
       intro a w' hoff hg hdep K hK
       obtain ⟨v24, e24, f24⟩ := hdep 24 _ 41 (by kernel_rfl) rfl rfl
       obtain rfl := (f24.2.2.2.2.2.2.2.2.2.2.2.2.2.2.2.2.2.2.2.2.2.2.2.2.1 rfl).symm
       rw [if_neg (by simp [Region.wanted, yielded, e24])]
       exact hK.out _ _ hg ⟨nn,nn,nn,nn,nn,nn,nn,nn,nn,nn,nn,nn,nn,nn,nn,nn,nn,nn,nn,nn,nn,nn,nn,nn,nn,nn⟩ (fun _ _ h => h)
      case s33 =>
       intro a w' hoff hg hdep K hK
       obtain ⟨v24, e24, f24⟩ := hdep 24 _ 41 (by kernel_rfl) rfl rfl
       obtain rfl := (f24.2.2.2.2.2.2.2.2.2.2.2.2.2.2.2.2.2.2.2.2.2.2.2.2.1 rfl).symm
       rw [if_neg (by simp [Region.wanted, yielded, e24])]
       exact hK.out _ _ hg ⟨nn,nn,nn,nn,nn,nn,nn,nn,nn,nn,nn,nn,nn,nn,nn,nn,nn,nn,nn,nn,nn,nn,nn,nn,nn,nn⟩ (fun _ _ h => h)
      case s34 =>
       intro a w' hoff hg hdep K hK
       obtain ⟨v24, e24, f24⟩ := hdep 24 _ 41 (by kernel_rfl) rfl rfl
       obtain rfl := (f24.2.2.2.2.2.2.2.2.2.2.2.2.2.2.2.2.2.2.2.2.2.2.2.2.1 rfl).symm
       rw [if_neg (by simp [Region.wanted, yielded, e24])]
       exact hK.out _ _ hg ⟨nn,nn,nn,nn,nn,nn,nn,nn,nn,nn,nn,nn,nn,nn,nn,nn,nn,nn,nn,nn,nn,nn,nn,nn,nn,nn⟩ (fun _ _ h => h)
      case s35 =>
       intro a w' hoff hg hdep K hK
       obtain ⟨v24, e24, f24⟩ := hdep 24 _ 41 (by kernel_rfl) rfl rfl
       obtain rfl := (f24.2.2.2.2.2.2.2.2.2.2.2.2.2.2.2.2.2.2.2.2.2.2.2.2.1 rfl).symm
       rw [if_neg (by simp [Region.wanted, yielded, e24])]
       exact hK.out _ _ hg ⟨nn,nn,nn,nn,nn,nn,nn,nn,nn,nn,nn,nn,nn,nn,nn,nn,nn,nn,nn,nn,nn,nn,nn,nn,nn,nn⟩ (fun _ _ h => h)
      case s36 =>
       intro a w' hoff hg hdep K hK
       obtain ⟨v24, e24, f24⟩ := hdep 24 _ 41 (by kernel_rfl) rfl rfl
       obtain rfl := (f24.2.2.2.2.2.2.2.2.2.2.2.2.2.2.2.2.2.2.2.2.2.2.2.2.1 rfl).symm
       rw [if_neg (by simp [Region.wanted, yielded, e24])]
       exact hK.out _ _ hg ⟨nn,nn,nn,nn,nn,nn,nn,nn,nn,nn,nn,nn,nn,nn,nn,nn,nn,nn,nn,nn,nn,nn,nn,nn,nn,nn⟩ (fun _ _ h => h)
      case s37 =>
       intro a w' hoff hg hdep K hK
       obtain ⟨v24, e24, f24⟩ := hdep 24 _ 41 (by kernel_rfl) rfl rfl
       obtain rfl := (f24.2.2.2.2.2.2.2.2.2.2.2.2.2.2.2.2.2.2.2.2.2.2.2.2.1 rfl).symm
       obtain ⟨v36, e36, f36⟩ := hdep 36 _ 53 (by kernel_rfl) rfl rfl
       rw [if_pos (by rfl)]
       go_simp
       exact hK.out _ _ hg ⟨nn,nn,nn,nn,nn,nn,nn,nn,nn,nn,nn,nn,nn,nn,nn,nn,nn,nn,nn,nn,nn,nn,nn,nn,nn, fun _ => rfl⟩ (fun _ _ h => h)
      case fin =>
       intro a w9 hoff hg hf
       obtain ⟨v0, e0, f0⟩ := hf 0 _ 17 rfl rfl
       obtain rfl := (f0.1 rfl).symm
       obtain ⟨v1, e1, f1⟩ := hf 1 _ 18 rfl rfl
       obtain rfl := (f1.2.1 rfl).symm
       obtain ⟨v2, e2, f2⟩ := hf 2 _ 19 rfl rfl
       obtain rfl := (f2.2.2.1 rfl).symm
       obtain ⟨v3, e3, f3⟩ := hf 3 _ 20 rfl rfl
       obtain rfl := (f3.2.2.2.1 rfl).symm
       obtain ⟨v4, e4, f4⟩ := hf 4 _ 21 rfl rfl
       obtain rfl := (f4.2.2.2.2.1 rfl).symm
       obtain ⟨v5, e5, f5⟩ := hf 5 _ 22 rfl rfl
       obtain rfl := (f5.2.2.2.2.2.1 rfl).symm
       obtain ⟨v6, e6, f6⟩ := hf 6 _ 23 rfl rfl
       obtain rfl := (f6.2.2.2.2.2.2.1 rfl).symm
       obtain ⟨v7, e7, f7⟩ := hf 7 _ 24 rfl rfl
       obtain rfl := (f7.2.2.2.2.2.2.2.1 rfl).symm
       obtain ⟨v8, e8, f8⟩ := hf 8 _ 25 rfl rfl
       obtain rfl := (f8.2.2.2.2.2.2.2.2.1 rfl).symm
       obtain ⟨v9, e9, f9⟩ := hf 9 _ 26 rfl rfl
       obtain rfl := (f9.2.2.2.2.2.2.2.2.2.1 rfl).symm
       obtain ⟨v10, e10, f10⟩ := hf 10 _ 27 rfl rfl
       obtain rfl := (f10.2.2.2.2.2.2.2.2.2.2.1 rfl).symm
       obtain ⟨v11, e11, f11⟩ := hf 11 _ 28 rfl rfl
       obtain rfl := (f11.2.2.2.2.2.2.2.2.2.2.2.1 rfl).symm
       obtain ⟨v12, e12, f12⟩ := hf 12 _ 29 rfl rfl
       obtain rfl := (f12.2.2.2.2.2.2.2.2.2.2.2.2.1 rfl).symm
       obtain ⟨v13, e13, f13⟩ := hf 13 _ 30 rfl rfl
       obtain rfl := (f13.2.2.2.2.2.2.2.2.2.2.2.2.2.1 rfl).symm
       obtain ⟨v14, e14, f14⟩ := hf 14 _ 31 rfl rfl
       obtain rfl := (f14.2.2.2.2.2.2.2.2.2.2.2.2.2.2.1 rfl).symm
       obtain ⟨v15, e15, f15⟩ := hf 15 _ 32 rfl rfl
       obtain rfl := (f15.2.2.2.2.2.2.2.2.2.2.2.2.2.2.2.1 rfl).symm
       obtain ⟨v16, e16, f16⟩ := hf 16 _ 33 rfl rfl
       obtain rfl := (f16.2.2.2.2.2.2.2.2.2.2.2.2.2.2.2.2.1 rfl).symm
       obtain ⟨v17, e17, f17⟩ := hf 17 _ 34 rfl rfl
       obtain rfl := (f17.2.2.2.2.2.2.2.2.2.2.2.2.2.2.2.2.2.1 rfl).symm
       obtain ⟨v18, e18, f18⟩ := hf 18 _ 35 rfl rfl
       obtain rfl := (f18.2.2.2.2.2.2.2.2.2.2.2.2.2.2.2.2.2.2.1 rfl).symm
       obtain ⟨v19, e19, f19⟩ := hf 19 _ 36 rfl rfl
       obtain rfl := (f19.2.2.2.2.2.2.2.2.2.2.2.2.2.2.2.2.2.2.2.1 rfl).symm
       obtain ⟨v20, e20, f20⟩ := hf 20 _ 37 rfl rfl
       obtain rfl := (f20.2.2.2.2.2.2.2.2.2.2.2.2.2.2.2.2.2.2.2.2.1 rfl).symm
       obtain ⟨v21, e21, f21⟩ := hf 21 _ 38 rfl rfl
       obtain rfl := (f21.2.2.2.2.2.2.2.2.2.2.2.2.2.2.2.2.2.2.2.2.2.1 rfl).symm
       obtain ⟨v22, e22, f22⟩ := hf 22 _ 39 rfl rfl
       obtain rfl := (f22.2.2.2.2.2.2.2.2.2.2.2.2.2.2.2.2.2.2.2.2.2.2.1 rfl).symm
       obtain ⟨v23, e23, f23⟩ := hf 23 _ 40 rfl rfl
       obtain rfl := (f23.2.2.2.2.2.2.2.2.2.2.2.2.2.2.2.2.2.2.2.2.2.2.2.1 rfl).symm
       obtain ⟨v24, e24, f24⟩ := hf 24 _ 41 rfl rfl
       obtain rfl := (f24.2.2.2.2.2.2.2.2.2.2.2.2.2.2.2.2.2.2.2.2.2.2.2.2.1 rfl).symm
       obtain ⟨v25, e25, f25⟩ := hf 25 _ 42 rfl rfl
       obtain ⟨v26, e26, f26⟩ := hf 26 _ 43 rfl rfl
       obtain ⟨v27, e27, f27⟩ := hf 27 _ 44 rfl rfl
       obtain ⟨v28, e28, f28⟩ := hf 28 _ 45 rfl rfl
       obtain ⟨v29, e29, f29⟩ := hf 29 _ 46 rfl rfl
       obtain ⟨v30, e30, f30⟩ := hf 30 _ 47 rfl rfl
       obtain ⟨v31, e31, f31⟩ := hf 31 _ 48 rfl rfl
       obtain ⟨v32, e32, f32⟩ := hf 32 _ 49 rfl rfl
       obtain ⟨v33, e33, f33⟩ := hf 33 _ 50 rfl rfl
       obtain ⟨v34, e34, f34⟩ := hf 34 _ 51 rfl rfl
       obtain ⟨v35, e35, f35⟩ := hf 35 _ 52 rfl rfl
       obtain ⟨v36, e36, f36⟩ := hf 36 _ 53 rfl rfl
       obtain ⟨v37, e37, f37⟩ := hf 37 _ 54 rfl rfl
       obtain rfl := (f37.2.2.2.2.2.2.2.2.2.2.2.2.2.2.2.2.2.2.2.2.2.2.2.2.2 rfl).symm
       rw [hoff.sets [(17, .slice (some ⟨lb, lo, none⟩) l.length ac), (18, .int .i64 (k : Int)), (19, .pointer (some ⟨lb, lo + k * 3, none⟩)), (20, .pointer (some ⟨lb, lo + k * 3, none⟩)), (21, .int .i64 x.kind), (22, .slice (some ⟨mb, mo, none⟩) m.length bc), (23, .int .i64 (k : Int)), (24, .pointer (some ⟨mb, mo + k * 3, none⟩)), (25, .pointer (some ⟨mb, mo + k * 3, none⟩)), (26, .int .i64 y.kind), (27, .bool false), (28, .bool false), (29, .slice (some ⟨lb, lo, none⟩) l.length ac), (30, .int .i64 (k : Int)), (31, .pointer (some ⟨lb, lo + k * 3, none⟩)), (32, .pointer (some ⟨lb, lo + k * 3 + 1, none⟩)), (33, .string x.name), (34, .slice (some ⟨mb, mo, none⟩) m.length bc), (35, .int .i64 (k : Int)), (36, .pointer (some ⟨mb, mo + k * 3, none⟩)), (37, .pointer (some ⟨mb, mo + k * 3 + 1, none⟩)), (38, .string y.name), (39, .bool true), (40, .bool true), (41, .bool true), (42, v25), (43, v26), (44, v27), (45, v28), (46, v29), (47, v30), (48, v31), (49, v32), (50, v33), (51, v34), (52, v35), (53, v36), (54, .bool true)] (by kernel_rfl) (by intro p hp; simp only [List.mem_cons, List.not_mem_nil, or_false] at hp; rcases hp with rfl | rfl | rfl | rfl | rfl | rfl | rfl | rfl | rfl | rfl | rfl | rfl | rfl | rfl | rfl | rfl | rfl | rfl | rfl | rfl | rfl | rfl | rfl | rfl | rfl | rfl | rfl | rfl | rfl | rfl | rfl | rfl | rfl | rfl | rfl | rfl | rfl | rfl <;> assumption)]
       clear hoff hf e0 f0 e1 f1 e2 f2 e3 f3 e4 f4 e5 f5 e6 f6 e7 f7 e8 f8 e9 f9 e10 f10 e11 f11 e12 f12 e13 f13 e14 f14 e15 f15 e16 f16 e17 f17 e18 f18 e19 f19 e20 f20 e21 f21 e22 f22 e23 f23 e24 f24 e25 f25 e26 f26 e27 f27 e28 f28 e29 f29 e30 f30 e31 f31 e32 f32 e33 f33 e34 f34 e35 f35 e36 f36 e37 f37
       simp only [List.foldl_cons, List.foldl_nil, List.setIfInBounds_toArray, List.set_cons_zero, List.set_cons_succ]
       have HB10 := Lib.hid (Below.step HBEL.out hg)
       clear hg
       go_wp2_with fail
       go_ret
       exact ⟨retB (by rw [eqB_false HF1.out]), HB10.out⟩
    ·have HKK : Hid ((x.kind != y.kind) = true) := Lib.hid (by simp [hke])
     have HF1 : Hid (¬ l = m) := by
      show ¬ _
      intro e
      exact hke (HEX.out.1 (HDR.out.1 (HREC.out.1 e)).1).1
     clear hke
     go_wp2_with fail
     refine wp_region_factsG (by rfl) 55 (by rfl) (by kernel_rfl) (fun wz iz vz => (iz = 0 → vz = .slice (some ⟨lb, lo, none⟩) l.length ac) ∧ (iz = 1 → vz = .int .i64 (k : Int)) ∧ (iz = 2 → vz = .pointer (some ⟨lb, lo + k * 3, none⟩)) ∧ (iz = 3 → vz = .pointer (some ⟨lb, lo + k * 3, none⟩)) ∧ (iz = 4 → vz = .int .i64 x.kind) ∧ (iz = 5 → vz = .slice (some ⟨mb, mo, none⟩) m.length bc) ∧ (iz = 6 → vz = .int .i64 (k : Int)) ∧ (iz = 7 → vz = .pointer (some ⟨mb, mo + k * 3, none⟩)) ∧ (iz = 8 → vz = .pointer (some ⟨mb, mo + k * 3, none⟩)) ∧ (iz = 9 → vz = .int .i64 y.kind) ∧ (iz = 10 → vz = .bool true) ∧ (iz = 11 → vz = .bool true) ∧ (iz = 23 → vz = .bool true) ∧ (iz = 24 → vz = .bool true) ∧ (iz = 37 → vz = .bool true)) (fun w' => Below wr.heap.size wr w') (Below.drew (Below.refl _ _)) ⟨?s0, ?s1, ?s2, ?s3, ?s4, ?s5, ?s6, ?s7, ?s8, ?s9, ?s10, ?s11, ?s12, ?s13, ?s14, ?s15, ?s16, ?s17, ?s18, ?s19, ?s20, ?s21, ?s22, ?s23, ?s24, ?s25, ?s26, ?s27, ?s28, ?s29, ?s30, ?s31, ?s32, ?s33, ?s34, ?s35, ?s36, ?s37, trivial⟩ ?fin
     case s0 =>
      intro a w' hoff hg hdep K hK
      have h0 := off_at hoff 0 (v := .slice (some ⟨lb, lo, none⟩) l.length ac) (by kernel_rfl) rfl
      rw [if_pos (by rfl)]
      go_simp
      exact hK.out _ _ hg ⟨fun _ => rfl, nn,nn,nn,nn,nn,nn,nn,nn,nn,nn,nn,nn,nn,nn⟩ (fun _ _ h => h)
     case s1 =>
      intro a w' hoff hg hdep K hK
      have h5 := off_at hoff 5 (v := .int .i64 (k : Int)) (by kernel_rfl) rfl
      rw [if_pos (by rfl)]
      go_simp
      exact hK.out _ _ hg ⟨nn, fun _ => rfl, nn,nn,nn,nn,nn,nn,nn,nn,nn,nn,nn,nn,nn⟩ (fun _ _ h => h)
     case s2 =>
      intro a w' hoff hg hdep K hK
      obtain ⟨v0, e0, f0⟩ := hdep 0 _ 17 (by kernel_rfl) rfl rfl
      obtain rfl := (f0.1 rfl).symm
      obtain ⟨v1, e1, f1⟩ := hdep 1 _ 18 (by kernel_rfl) rfl rfl
      obtain rfl := (f1.2.1 rfl).symm
      have hk1 := HK1.out; have hk2 := HK2.out
      rw [if_pos (by rfl)]
      go_simp
      exact hK.out _ _ hg ⟨nn,nn, fun _ => rfl, nn,nn,nn,nn,nn,nn,nn,nn,nn,nn,nn,nn⟩ (fun _ _ h => h)
     case s3 =>
      intro a w' hoff hg hdep K hK
      obtain ⟨v2, e2, f2⟩ := hdep 2 _ 19 (by kernel_rfl) rfl rfl
      obtain rfl := (f2.2.2.1 rfl).symm
      rw [if_pos (by rfl)]
      go_simp
      exact hK.out _ _ hg ⟨nn,nn,nn, fun _ => rfl, nn,nn,nn,nn,nn,nn,nn,nn,nn,nn,nn⟩ (fun _ _ h => h)
     case s4 =>
      intro a w' hoff hg hdep K hK
      obtain ⟨v3, e3, f3⟩ := hdep 3 _ 20 (by kernel_rfl) rfl rfl
      obtain rfl := (f3.2.2.2.1 rfl).symm
      rw [if_pos (by rfl)]
      have q0 := (hg.cell (p := ⟨lb, lo + k * 3, none⟩) HLB.out).trans Q0.out; have q1 := (hg.cell (p := ⟨lb, lo + k * 3 + 1, none⟩) HLB.out).trans Q1.out; have q2 := (hg.cell (p := ⟨lb, lo + k * 3 + 2, none⟩) HLB.out).trans Q2.out; have p0 := (hg.cell (p := ⟨mb, mo + k * 3, none⟩) HMB.out).trans P0.out; have p1 := (hg.cell (p := ⟨mb, mo + k * 3 + 1, none⟩) HMB.out).trans P1.out; have p2 := (hg.cell (p := ⟨mb, mo + k * 3 + 2, none⟩) HMB.out).trans P2.out
      go_simp
      exact hK.out _ _ hg ⟨nn,nn,nn,nn, fun _ => rfl, nn,nn,nn,nn,nn,nn,nn,nn,nn,nn⟩ (fun _ _ h => h)
     case s5 =>
      intro a w' hoff hg hdep K hK
      have h1 := off_at hoff 1 (v := .slice (some ⟨mb, mo, none⟩) m.length bc) (by kernel_rfl) rfl
      rw [if_pos (by rfl)]
      go_simp
      exact hK.out _ _ hg ⟨nn,nn,nn,nn,nn, fun _ => rfl, nn,nn,nn,nn,nn,nn,nn,nn,nn⟩ (fun _ _ h => h)
     case s6 =>
      intro a w' hoff hg hdep K hK
      have h5 := off_at hoff 5 (v := .int .i64 (k : Int)) (by kernel_rfl) rfl
      rw [if_pos (by rfl)]
      go_simp
      exact hK.out _ _ hg ⟨nn,nn,nn,nn,nn,nn, fun _ => rfl, nn,nn,nn,nn,nn,nn,nn,nn⟩ (fun _ _ h => h)
     case s7 =>
      intro a w' hoff hg hdep K hK
      obtain ⟨v5, e5, f5⟩ := hdep 5 _ 22 (by kernel_rfl) rfl rfl
      obtain rfl := (f5.2.2.2.2.2.1 rfl).symm
      obtain ⟨v6, e6, f6⟩ := hdep 6 _ 23 (by kernel_rfl) rfl rfl
      obtain rfl := (f6.2.2.2.2.2.2.1 rfl).symm
      have hk1 := HK1.out; have hk3 := HK3.out
      rw [if_pos (by rfl)]
      go_simp
      exact hK.out _ _ hg ⟨nn,nn,nn,nn,nn,nn,nn, fun _ => rfl, nn,nn,nn,nn,nn,nn,nn⟩ (fun _ _ h => h)
     case s8 =>
      intro a w' hoff hg hdep K hK
      obtain ⟨v7, e7, f7⟩ := hdep 7 _ 24 (by kernel_rfl) rfl rfl
      obtain rfl := (f7.2.2.2.2.2.2.2.1 rfl).symm
      rw [if_pos (by rfl)]
      go_simp
      exact hK.out _ _ hg ⟨nn,nn,nn,nn,nn,nn,nn,nn, fun _ => rfl, nn,nn,nn,nn,nn,nn⟩ (fun _ _ h => h)
     case s9 =>
      intro a w' hoff hg hdep K hK
      obtain ⟨v8, e8, f8⟩ := hdep 8 _ 25 (by kernel_rfl) rfl rfl
      obtain rfl := (f8.2.2.2.2.2.2.2.2.1 rfl).symm
      rw [if_pos (by rfl)]
      have q0 := (hg.cell (p := ⟨lb, lo + k * 3, none⟩) HLB.out).trans Q0.out; have q1 := (hg.cell (p := ⟨lb, lo + k * 3 + 1, none⟩) HLB.out).trans Q1.out; have q2 := (hg.cell (p := ⟨lb, lo + k * 3 + 2, none⟩) HLB.out).trans Q2.out; have p0 := (hg.cell (p := ⟨mb, mo + k * 3, none⟩) HMB.out).trans P0.out; have p1 := (hg.cell (p := ⟨mb, mo + k * 3 + 1, none⟩) HMB.out).trans P1.out; have p2 := (hg.cell (p := ⟨mb, mo + k * 3 + 2, none⟩) HMB.out).trans P2.out
      go_simp
      exact hK.out _ _ hg ⟨nn,nn,nn,nn,nn,nn,nn,nn,nn, fun _ => rfl, nn,nn,nn,nn,nn⟩ (fun _ _ h => h)
     case s10 =>
      intro a w' hoff hg hdep K hK
      obtain ⟨v4, e4, f4⟩ := hdep 4 _ 21 (by kernel_rfl) rfl rfl
      obtain rfl := (f4.2.2.2.2.1 rfl).symm
      obtain ⟨v9, e9, f9⟩ := hdep 9 _ 26 (by kernel_rfl) rfl rfl
      obtain rfl := (f9.2.2.2.2.2.2.2.2.2.1 rfl).symm
      rw [if_pos (by rfl)]
      have hkk := HKK.out
      go_simp
      exact hK.out _ _ hg ⟨nn,nn,nn,nn,nn,nn,nn,nn,nn,nn, fun _ => rfl, nn,nn,nn,nn⟩ (fun _ _ h => h)
     case s11 =>
      intro a w' hoff hg hdep K hK
      obtain ⟨v10, e10, f10⟩ := hdep 10 _ 27 (by kernel_rfl) rfl rfl
      obtain rfl := (f10.2.2.2.2.2.2.2.2.2.2.1 rfl).symm
      rw [if_pos (by rfl)]
      go_simp
      exact hK.out _ _ hg ⟨nn,nn,nn,nn,nn,nn,nn,nn,nn,nn,nn, fun _ => rfl, nn,nn,nn⟩ (fun _ _ h => h)
     case s12 =>
      intro a w' hoff hg hdep K hK
      obtain ⟨v11, e11, f11⟩ := hdep 11 _ 28 (by kernel_rfl) rfl rfl
      obtain rfl := (f11.2.2.2.2.2.2.2.2.2.2.2.1 rfl).symm
      rw [if_neg (by simp [Region.wanted, yielded, e11])]
      exact hK.out _ _ hg ⟨nn,nn,nn,nn,nn,nn,nn,nn,nn,nn,nn,nn,nn,nn,nn⟩ (fun _ _ h => h)
     case s13 =>
      intro a w' hoff hg hdep K hK
      obtain ⟨v11, e11, f11⟩ := hdep 11 _ 28 (by kernel_rfl) rfl rfl
      obtain rfl := (f11.2.2.2.2.2.2.2.2.2.2.2.1 rfl).symm
      rw [if_neg (by simp [Region.wanted, yielded, e11])]
      exact hK.out _ _ hg ⟨nn,nn,nn,nn,nn,nn,nn,nn,nn,nn,nn,nn,nn,nn,nn⟩ (fun _ _ h => h)
     case s14 =>
      intro a w' hoff hg hdep K hK
      obtain ⟨v11, e11, f11⟩ := hdep 11 _ 28 (by kernel_rfl) rfl rfl
      obtain rfl := (f11.2.2.2.2.2.2.2.2.2.2.2.1 rfl).symm
      rw [if_neg (by simp [Region.wanted, yielded, e11])]
      exact hK.out _ _ hg ⟨nn,nn,nn,nn,nn,nn,nn,nn,nn,nn,nn,nn,nn,nn,nn⟩ (fun _ _ h => h)
     case s15 =>
      intro a w' hoff hg hdep K hK
      obtain ⟨v11, e11, f11⟩ := hdep 11 _ 28 (by kernel_rfl) rfl rfl
      obtain rfl := (f11.2.2.2.2.2.2.2.2.2.2.2.1 rfl).symm
      rw [if_neg (by simp [Region.wanted, yielded, e11])]
      exact hK.out _ _ hg ⟨nn,nn,nn,nn,nn,nn,nn,nn,nn,nn,nn,nn,nn,nn,nn⟩ (fun _ _ h => h)
     case s16 =>
      intro a w' hoff hg hdep K hK
      obtain ⟨v11, e11, f11⟩ := hdep 11 _ 28 (by kernel_rfl) rfl rfl
      obtain rfl := (f11.2.2.2.2.2.2.2.2.2.2.2.1 rfl).symm
      rw [if_neg (by simp [Region.wanted, yielded, e11])]
      exact hK.out _ _ hg ⟨nn,nn,nn,nn,nn,nn,nn,nn,nn,nn,nn,nn,nn,nn,nn⟩ (fun _ _ h => h)
     case s17 =>
      intro a w' hoff hg hdep K hK
      obtain ⟨v11, e11, f11⟩ := hdep 11 _ 28 (by kernel_rfl) rfl rfl
      obtain rfl := (f11.2.2.2.2.2.2.2.2.2.2.2.1 rfl).symm
      rw [if_neg (by simp [Region.wanted, yielded, e11])]
      exact hK.out _ _ hg ⟨nn,nn,nn,nn,nn,nn,nn,nn,nn,nn,nn,nn,nn,nn,nn⟩ (fun _ _ h => h)
     case s18 =>
      intro a w' hoff hg hdep K hK
      obtain ⟨v11, e11, f11⟩ := hdep 11 _ 28 (by kernel_rfl) rfl rfl
      obtain rfl := (f11.2.2.2.2.2.2.2.2.2.2.2.1 rfl).symm
      rw [if_neg (by simp [Region.wanted, yielded, e11])]
      exact hK.out _ _ hg ⟨nn,nn,nn,nn,nn,nn,nn,nn,nn,nn,nn,nn,nn,nn,nn⟩ (fun _ _ h => h)
     case s19 =>
      intro a w' hoff hg hdep K hK
      obtain ⟨v11, e11, f11⟩ := hdep 11 _ 28 (by kernel_rfl) rfl rfl
      obtain rfl := (f11.2.2.2.2.2.2.2.2.2.2.2.1 rfl).symm
      rw [if_neg (by simp [Region.wanted, yielded, e11])]
      exact hK.out _ _ hg ⟨nn,nn,nn,nn,nn,nn,nn,nn,nn,nn,nn,nn,nn,nn,nn⟩ (fun _ _ h => h)
     case s20 =>
      intro a w' hoff hg hdep K hK
      obtain ⟨v11, e11, f11⟩ := hdep 11 _ 28 (by kernel_rfl) rfl rfl
      obtain rfl := (f11.2.2.2.2.2.2.2.2.2.2.2.1 rfl).symm
      rw [if_neg (by simp [Region.wanted, yielded, e11])]
      exact hK.out _ _ hg ⟨nn,nn,nn,nn,nn,nn,nn,nn,nn,nn,nn,nn,nn,nn,nn⟩ (fun _ _ h => h)
     case s21 =>
      intro a w' hoff hg hdep K hK
      obtain ⟨v11, e11, f11⟩ := hdep 11 _ 28 (by kernel_rfl) rfl rfl
      obtain rfl := (f11.2.2.2.2.2.2.2.2.2.2.2.1 rfl).symm
      rw [if_neg (by simp [Region.wanted, yielded, e11])]
      exact hK.out _ _ hg ⟨nn,nn,nn,nn,nn,nn,nn,nn,nn,nn,nn,nn,nn,nn,nn⟩ (fun _ _ h => h)
     case s22 =>
      intro a w' hoff hg hdep K hK
      obtain ⟨v11, e11, f11⟩ := hdep 11 _ 28 (by kernel_rfl) rfl rfl
      obtain rfl := (f11.2.2.2.2.2.2.2.2.2.2.2.1 rfl).symm
      rw [if_neg (by simp [Region.wanted, yielded, e11])]
      exact hK.out _ _ hg ⟨nn,nn,nn,nn,nn,nn,nn,nn,nn,nn,nn,nn,nn,nn,nn⟩ (fun _ _ h => h)
     case s23 =>
      intro a w' hoff hg hdep K hK
      obtain ⟨v11, e11, f11⟩ := hdep 11 _ 28 (by kernel_rfl) rfl rfl
      obtain rfl := (f11.2.2.2.2.2.2.2.2.2.2.2.1 rfl).symm
      obtain ⟨v22, e22, f22⟩ := hdep 22 _ 39 (by kernel_rfl) rfl rfl
      rw [if_pos (by rfl)]
      go_simp
      exact hK.out _ _ hg ⟨nn,nn,nn,nn,nn,nn,nn,nn,nn,nn,nn,nn, fun _ => rfl, nn,nn⟩ (fun _ _ h => h)
     case s24 =>
      intro a w' hoff hg hdep K hK
      obtain ⟨v23, e23, f23⟩ := hdep 23 _ 40 (by kernel_rfl) rfl rfl
      obtain rfl := (f23.2.2.2.2.2.2.2.2.2.2.2.2.1 rfl).symm
      rw [if_pos (by rfl)]
      go_simp
      exact hK.out _ _ hg ⟨nn,nn,nn,nn,nn,nn,nn,nn,nn,nn,nn,nn,nn, fun _ => rfl, nn⟩ (fun _ _ h => h)
     case s25 =>
      intro a w' hoff hg hdep K hK
      obtain ⟨v24, e24, f24⟩ := hdep 24 _ 41 (by kernel_rfl) rfl rfl
      obtain rfl := (f24.2.2.2.2.2.2.2.2.2.2.2.2.2.1 rfl).symm
      rw [if_neg (by simp [Region.wanted, yielded, e24])]
      exact hK.out _ _ hg ⟨nn,nn,nn,nn,nn,nn,nn,nn,nn,nn,nn,nn,nn,nn,nn⟩ (fun _ _ h => h)
     case s26 =>
      intro a w' hoff hg hdep K hK
      obtain ⟨v24, e24, f24⟩ := hdep 24 _ 41 (by kernel_rfl) rfl rfl
      obtain rfl := (f24.2.2.2.2.2.2.2.2.2.2.2.2.2.1 rfl).symm
      rw [if_neg (by simp [Region.wanted, yielded, e24])]
      exact hK.out _ _ hg ⟨nn,nn,nn,nn,nn,nn,nn,nn,nn,nn,nn,nn,nn,nn,nn⟩ (fun _ _ h => h)
     case s27 =>
      intro a w' hoff hg hdep K hK
      obtain ⟨v24, e24, f24⟩ := hdep 24 _ 41 (by kernel_rfl) rfl rfl
      obtain rfl := (f24.2.2.2.2.2.2.2.2.2.2.2.2.2.1 rfl).symm
      rw [if_neg (by simp [Region.wanted, yielded, e24])]
      exact hK.out _ _ hg ⟨nn,nn,nn,nn,nn,nn,nn,nn,nn,nn,nn,nn,nn,nn,nn⟩ (fun _ _ h => h)
     case s28 =>
      intro a w' hoff hg hdep K hK
      obtain ⟨v24, e24, f24⟩ := hdep 24 _ 41 (by kernel_rfl) rfl rfl
      obtain rfl := (f24.2.2.2.2.2.2.2.2.2.2.2.2.2.1 rfl).symm
      rw [if_neg (by simp [Region.wanted, yielded, e24])]
      exact hK.out _ _ hg ⟨nn,nn,nn,nn,nn,nn,nn,nn,nn,nn,nn,nn,nn,nn,nn⟩ (fun _ _ h => h)
     case s29 =>
      intro a w' hoff hg hdep K hK
      obtain ⟨v24, e24, f24⟩ := hdep 24 _ 41 (by kernel_rfl) rfl rfl
      obtain rfl := (f24.2.2.2.2.2.2.2.2.2.2.2.2.2.1 rfl).symm
      rw [if_neg (by simp [Region.wanted, yielded, e24])]
      exact hK.out _ _ hg ⟨nn,nn,nn,nn,nn,nn,nn,nn,nn,nn,nn,nn,nn,nn,nn⟩ (fun _ _ h => h)
     case s30 =>
      intro a w' hoff hg hdep K hK
      obtain ⟨v24, e24, f24⟩ := hdep 24 _ 41 (by kernel_rfl) rfl rfl
      obtain rfl := (f24.2.2.2.2.2.2.2.2.2.2.2.2.2.1 rfl).symm
      rw [if_neg (by simp [Region.wanted, yielded, e24])]
      exact hK.out _ _ hg ⟨nn,nn,nn,nn,nn,nn,nn,nn,nn,nn,nn,nn,nn,nn,nn⟩ (fun _ _ h => h)
     case s31 =>
      intro a w' hoff hg hdep K hK
      obtain ⟨v24, e24, f24⟩ := hdep 24 _ 41 (by kernel_rfl) rfl rfl
      obtain rfl := (f24.2.2.2.2.2.2.2.2.2.2.2.2.2.1 rfl).symm
      rw [if_neg (by simp [Region.wanted, yielded, e24])]
      exact hK.out _ _ hg ⟨nn,nn,nn,nn,nn,nn,nn,nn,nn,nn,nn,nn,nn,nn,nn⟩ (fun _ _ h => h)
     case s32 =>
      intro a w' hoff hg hdep K hK
      obtain ⟨v24, e24, f24⟩ := hdep 24 _ 41 (by kernel_rfl) rfl rfl
      obtain rfl := (f24.2.2.2.2.2.2.2.2.2.2.2.2.2.1 rfl).symm
      rw [if_neg (by simp [Region.wanted, yielded, e24])]
      exact hK.out _ _ hg ⟨nn,nn,nn,nn,nn,nn,nn,nn,nn,nn,nn,nn,nn,nn,nn⟩ (fun _ _ h => h)
     case s33 =>
      intro a w' hoff hg hdep K hK
      obtain ⟨v24, e24, f24⟩ := hdep 24 _ 41 (by kernel_rfl) rfl rfl
      obtain rfl := (f24.2.2.2.2.2.2.2.2.2.2.2.2.2.1 rfl).symm
      rw [if_neg (by simp [Region.wanted, yielded, e24])]
      exact hK.out _ _ hg ⟨nn,nn,nn,nn,nn,nn,nn,nn,nn,nn,nn,nn,nn,nn,nn⟩ (fun _ _ h => h)
     case s34 =>
      intro a w' hoff hg hdep K hK
      obtain ⟨v24, e24, f24⟩ := hdep 24 _ 41 (by kernel_rfl) rfl rfl
      obtain rfl := (f24.2.2.2.2.2.2.2.2.2.2.2.2.2.1 rfl).symm
      rw [if_neg (by simp [Region.wanted, yielded, e24])]
      exact hK.out _ _ hg ⟨nn,nn,nn,nn,nn,nn,nn,nn,nn,nn,nn,nn,nn,nn,nn⟩ (fun _ _ h => h)
     case s35 =>
      intro a w' hoff hg hdep K hK
      obtain ⟨v24, e24, f24⟩ := hdep 24 _ 41 (by kernel_rfl) rfl rfl
      obtain rfl := (f24.2.2.2.2.2.2.2.2.2.2.2.2.2.1 rfl).symm
      rw [if_neg (by simp [Region.wanted, yielded, e24])]
      exact hK.out _ _ hg ⟨nn,nn,nn,nn,nn,nn,nn,nn,nn,nn,nn,nn,nn,nn,nn⟩ (fun _ _ h => h)
     case s36 =>
      intro a w' hoff hg hdep K hK
      obtain ⟨v24, e24, f24⟩ := hdep 24 _ 41 (by kernel_rfl) rfl rfl
      obtain rfl := (f24.2.2.2.2.2.2.2.2.2.2.2.2.2.1 rfl).symm
      rw [if_neg (by simp [Region.wanted, yielded, e24])]
      exact hK.out _ _ hg ⟨nn,nn,nn,nn,nn,nn,nn,nn,nn,nn,nn,nn,nn,nn,nn⟩ (fun _ _ h => h)
     case s37 =>
      intro a w' hoff hg hdep K hK
      obtain ⟨v24, e24, f24⟩ := hdep 24 _ 41 (by kernel_rfl) rfl rfl
      obtain rfl := (f24.2.2.2.2.2.2.2.2.2.2.2.2.2.1 rfl).symm
      obtain ⟨v36, e36, f36⟩ := hdep 36 _ 53 (by kernel_rfl) rfl rfl
      rw [if_pos (by rfl)]
      go_simp
      exact hK.out _ _ hg ⟨nn,nn,nn,nn,nn,nn,nn,nn,nn,nn,nn,nn,nn,nn, fun _ => rfl⟩ (fun _ _ h => h)
     case fin =>
      intro a w9 hoff hg hf
      obtain ⟨v0, e0, f0⟩ := hf 0 _ 17 rfl rfl
      obtain rfl := (f0.1 rfl).symm
      obtain ⟨v1, e1, f1⟩ := hf 1 _ 18 rfl rfl
      obtain rfl := (f1.2.1 rfl).symm
      obtain ⟨v2, e2, f2⟩ := hf 2 _ 19 rfl rfl
      obtain rfl := (f2.2.2.1 rfl).symm
      obtain ⟨v3, e3, f3⟩ := hf 3 _ 20 rfl rfl
      obtain rfl := (f3.2.2.2.1 rfl).symm
      obtain ⟨v4, e4, f4⟩ := hf 4 _ 21 rfl rfl
      obtain rfl := (f4.2.2.2.2.1 rfl).symm
      obtain ⟨v5, e5, f5⟩ := hf 5 _ 22 rfl rfl
      obtain rfl := (f5.2.2.2.2.2.1 rfl).symm
      obtain ⟨v6, e6, f6⟩ := hf 6 _ 23 rfl rfl
      obtain rfl := (f6.2.2.2.2.2.2.1 rfl).symm
      obtain ⟨v7, e7, f7⟩ := hf 7 _ 24 rfl rfl
      obtain rfl := (f7.2.2.2.2.2.2.2.1 rfl).symm
      obtain ⟨v8, e8, f8⟩ := hf 8 _ 25 rfl rfl
      obtain rfl := (f8.2.2.2.2.2.2.2.2.1 rfl).symm
      obtain ⟨v9, e9, f9⟩ := hf 9 _ 26 rfl rfl
      obtain rfl := (f9.2.2.2.2.2.2.2.2.2.1 rfl).symm
      obtain ⟨v10, e10, f10⟩ := hf 10 _ 27 rfl rfl
      obtain rfl := (f10.2.2.2.2.2.2.2.2.2.2.1 rfl).symm
      obtain ⟨v11, e11, f11⟩ := hf 11 _ 28 rfl rfl
      obtain rfl := (f11.2.2.2.2.2.2.2.2.2.2.2.1 rfl).symm
      obtain ⟨v12, e12, f12⟩ := hf 12 _ 29 rfl rfl
      obtain ⟨v13, e13, f13⟩ := hf 13 _ 30 rfl rfl
      obtain ⟨v14, e14, f14⟩ := hf 14 _ 31 rfl rfl
      obtain ⟨v15, e15, f15⟩ := hf 15 _ 32 rfl rfl
      obtain ⟨v16, e16, f16⟩ := hf 16 _ 33 rfl rfl
      obtain ⟨v17, e17, f17⟩ := hf 17 _ 34 rfl rfl
      obtain ⟨v18, e18, f18⟩ := hf 18 _ 35 rfl rfl
      obtain ⟨v19, e19, f19⟩ := hf 19 _ 36 rfl rfl
      obtain ⟨v20, e20, f20⟩ := hf 20 _ 37 rfl rfl
      obtain ⟨v21, e21, f21⟩ := hf 21 _ 38 rfl rfl
      obtain ⟨v22, e22, f22⟩ := hf 22 _ 39 rfl rfl
      obtain ⟨v23, e23, f23⟩ := hf 23 _ 40 rfl rfl
      obtain rfl := (f23.2.2.2.2.2.2.2.2.2.2.2.2.1 rfl).symm
      obtain ⟨v24, e24, f24⟩ := hf 24 _ 41 rfl rfl
      obtain rfl := (f24.2.2.2.2.2.2.2.2.2.2.2.2.2.1 rfl).symm
      obtain ⟨v25, e25, f25⟩ := hf 25 _ 42 rfl rfl
      obtain ⟨v26, e26, f26⟩ := hf 26 _ 43 rfl rfl
      obtain ⟨v27, e27, f27⟩ := hf 27 _ 44 rfl rfl
      obtain ⟨v28, e28, f28⟩ := hf 28 _ 45 rfl rfl
      obtain ⟨v29, e29, f29⟩ := hf 29 _ 46 rfl rfl
      obtain ⟨v30, e30, f30⟩ := hf 30 _ 47 rfl rfl
      obtain ⟨v31, e31, f31⟩ := hf 31 _ 48 rfl rfl
      obtain ⟨v32, e32, f32⟩ := hf 32 _ 49 rfl rfl
      obtain ⟨v33, e33, f33⟩ := hf 33 _ 50 rfl rfl
      obtain ⟨v34, e34, f34⟩ := hf 34 _ 51 rfl rfl
      obtain ⟨v35, e35, f35⟩ := hf 35 _ 52 rfl rfl
      obtain ⟨v36, e36, f36⟩ := hf 36 _ 53 rfl rfl
      obtain ⟨v37, e37, f37⟩ := hf 37 _ 54 rfl rfl
      obtain rfl := (f37.2.2.2.2.2.2.2.2.2.2.2.2.2.2 rfl).symm
      rw [hoff.sets [(17, .slice (some ⟨lb, lo, none⟩) l.length ac), (18, .int .i64 (k : Int)), (19, .pointer (some ⟨lb, lo + k * 3, none⟩)), (20, .pointer (some ⟨lb, lo + k * 3, none⟩)), (21, .int .i64 x.kind), (22, .slice (some ⟨mb, mo, none⟩) m.length bc), (23, .int .i64 (k : Int)), (24, .pointer (some ⟨mb, mo + k * 3, none⟩)), (25, .pointer (some ⟨mb, mo + k * 3, none⟩)), (26, .int .i64 y.kind), (27, .bool true), (28, .bool true), (29, v12), (30, v13), (31, v14), (32, v15), (33, v16), (34, v17), (35, v18), (36, v19), (37, v20), (38, v21), (39, v22), (40, .bool true), (41, .bool true), (42, v25), (43, v26), (44, v27), (45, v28), (46, v29), (47, v30), (48, v31), (49, v32), (50, v33), (51, v34), (52, v35), (53, v36), (54, .bool true)] (by kernel_rfl) (by intro p hp; simp only [List.mem_cons, List.not_mem_nil, or_false] at hp; rcases hp with rfl | rfl | rfl | rfl | rfl | rfl | rfl | rfl | rfl | rfl | rfl | rfl | rfl | rfl | rfl | rfl | rfl | rfl | rfl | rfl | rfl | rfl | rfl | rfl | rfl | rfl | rfl | rfl | rfl | rfl | rfl | rfl | rfl | rfl | rfl | rfl | rfl | rfl <;> assumption)]
      clear hoff hf e0 f0 e1 f1 e2 f2 e3 f3 e4 f4 e5 f5 e6 f6 e7 f7 e8 f8 e9 f9 e10 f10 e11 f11 e12 f12 e13 f13 e14 f14 e15 f15 e16 f16 e17 f17 e18 f18 e19 f19 e20 f20 e21 f21 e22 f22 e23 f23 e24 f24 e25 f25 e26 f26 e27 f27 e28 f28 e29 f29 e30 f30 e31 f31 e32 f32 e33 f33 e34 f34 e35 f35 e36 f36 e37 f37
      simp only [List.foldl_cons, List.foldl_nil, List.setIfInBounds_toArray, List.set_cons_zero, List.set_cons_succ]
      have HB10 := Lib.hid (Below.step HBEL.out hg)
      clear hg
      go_wp2_with fail
      go_ret
      exact ⟨retB (by rw [eqB_false HF1.out]), HB10.out⟩
   ·have HF1 : Hid (l = m) := by
     show _
     refine HREC.out.2 ?_
     rw [List.drop_of_length_le (by omega), List.drop_of_length_le (by have := HNEQ.out; omega)]
    go_wp2_with fail
    go_ret
    exact ⟨retB (by rw [eqB_true HF1.out]), hbel⟩
 ·have hn' : ((l.length : Int) != (m.length : Int)) = true := by simp; omega
  have HF := Lib.hid (fun e : l = m => hne (congrArg List.length e))
  clear hne
  go_enter Tryz.func27, Tryz.ntmps27
  go_wp2_with fail
  go_ret
  exact ⟨retB (by rw [eqB_false HF.out]), Below.refl _ _⟩
end Go.Proofs.YtgjemmdhamkngaaGreatDoor
