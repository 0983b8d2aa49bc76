/-
  TenSame
-/
import Derived.Test.YtpnaegohjbaggaaKD17
import Derived.Test.YtpnaegohjbaggaaKD02
namespace Go.Proofs.Ytpnaegohjbaggaa
open Go.RowKit
def sameRo (x y : Ro) : Bool := (x.name.toList == y.name.toList) && (x.stamp == y.stamp) && sameL x.args y.args
def sameRos : List Ro → List Ro → Bool
 | [], [] => true
 | [], _ :: _ => false
 | _ :: _, [] => false
 | x :: l, y :: m => sameRo x y && sameRos l m
theorem sameRos_len : ∀ {l m : List Ro}, l.length ≠ m.length → sameRos l m = false
 | [], [], h => absurd rfl h
 | [], _ :: _, _ => by simp [sameRos]
 | _ :: _, [], _ => by simp [sameRos]
 | x :: l, y :: m, h => by
  rw [sameRos, sameRos_len (l := l) (m := m) (by simpa using h), Bool.and_false]
theorem sameRos_at {l m : List Ro} {k : Nat} (hl : k < l.length) (hm : k < m.length) : sameRos (l.drop k) (m.drop k) = (sameRo l[k] m[k] && sameRos (l.drop (k + 1)) (m.drop (k + 1))) := by
 rw [List.drop_eq_getElem_cons hl, List.drop_eq_getElem_cons hm, sameRos]
theorem sameRo_iff (x y : Ro) : sameRo x y = true ↔ x = y := by
 unfold sameRo
 constructor
 ·intro h
  simp only [Bool.and_eq_true, beq_iff_eq] at h
  obtain ⟨⟨h1, h2⟩, h3⟩ := h;have e1 := toList_inj h1;have e3 := (sameL_iff _ _).1 h3
  cases x; cases y
  simp_all
 ·rintro rfl
  simp [(sameL_iff x.args x.args).2 rfl]
theorem sameRos_iff : ∀ l m : List Ro, sameRos l m = true ↔ l = m
 | [], [] => by simp [sameRos]
 | [], _ :: _ => by simp [sameRos]
 | _ :: _, [] => by simp [sameRos]
 | x :: l, y :: m => by rw [sameRos, Bool.and_eq_true, sameRo_iff, sameRos_iff l m, List.cons.injEq]
set_option maxRecDepth 100000 in
set_option maxHeartbeats 4000000 in
theorem same10_any (l m : List Ro) (S : Nat → Prop) (w : World) (a b : Value) (hS : ∀ k, S k → k < w.heap.size) (ha : SlG S w kdRo.n kdRo.bytes (kdRo.R S w) l a) (hb : SlG S w kdRo.n kdRo.bytes (kdRo.R S w) m b) :
  Calls Try.prog 22 #[a, b] w fun e w' => e = .returned (.bool (sameRos l m)) ∧ Below w.heap.size w w' := by
 have h63 : l.length * 48 ≤ 140737488355328 := SlG.bytes ha;have HA : Hid (RepRos S w l a) := ha;have HB : Hid (RepRos S w m b) := hb;have HS := Lib.hid hS;obtain ⟨aa, ac, rfl⟩ := SlG.form ha;obtain ⟨ba, bc, rfl⟩ := SlG.form hb;clear ha hb hS
 by_cases hlm : l.length = m.length
 ·have HLM := Lib.hid hlm
  have k0 : ((l.length : Int) != (m.length : Int)) = false := by simp [hlm]
  clear hlm;go_enter Try.func22, Try.ntmps22
  go_wp2_with fail
  clear k0;go_loopw [5] (fun iv wr => ∃ i : Nat, i ≤ l.length ∧ iv = .int .i64 (i : Int) ∧ Hid (sameRos l m = sameRos (l.drop i) (m.drop i)) ∧ Hid (Below w.heap.size w wr)) (fun iv _ => l.length - (intOf iv).toNat)
  case atStart => exact ⟨0, Nat.zero_le _, rfl, rfl, Below.refl _ _⟩
  case round =>
   obtain ⟨i, hi, rfl, hrec, hbw⟩ := hrel
   by_cases hlt : i < l.length
   ·have hltm : i < m.length := by have := HLM.out; omega
    have hAW : RepRos S wr.drew l (.slice aa l.length ac) := RepRos.on (w' := wr.drew) (fun _ h => h) (fun k hk => hbw.out.block k (HS.out k hk)) HA.out;have hBW : RepRos S wr.drew m (.slice ba m.length bc) := RepRos.on (w' := wr.drew) (fun _ h => h) (fun k hk => hbw.out.block k (HS.out k hk)) HB.out;obtain ⟨-, -, xb, xo, xa, xc, rfl, -, p0, p1, p2, hx⟩ := RepRos.at hAW i hlt;obtain ⟨-, -, yb, yo, ya, yc, rfl, -, q0, q1, q2, hy⟩ := RepRos.at hBW i hltm;have k1 : decide ((i : Int) < (l.length : Int)) = true := decide_eq_true (by omega);have k2 : decide (i < l.length) = true := decide_eq_true hlt;have k3 : (0 : Int) ≤ (i : Int) := Int.natCast_nonneg i;have k4 : (i : Int) < (l.length : Int) := by omega
    have k5 : (i : Int) < (m.length : Int) := by omega
    have HREC := Lib.hid (hrec.out.trans (sameRos_at hlt hltm));have HLT := Lib.hid hlt;have HXL : Hid (RepL wr.drew.heap.size wr.drew l[i].args (.slice xa l[i].args.length xc)) := RepLG.on (fun k hk => Nat.lt_of_lt_of_le (HS.out k hk) hbw.out.size) (fun _ _ => rfl) hx.2.2.1;have HYL : Hid (RepL wr.drew.heap.size wr.drew m[i].args (.slice ya m[i].args.length yc)) := RepLG.on (fun k hk => Nat.lt_of_lt_of_le (HS.out k hk) hbw.out.size) (fun _ _ => rfl) hy.2.2.1;have HBD : Hid (Below w.heap.size w wr.drew) := Below.drew hbw.out;clear hAW hBW hx hy hrec hi;generalize l[i] = x at *;generalize m[i] = y at *;clear hlt hltm
    by_cases hn : (x.name.toList == y.name.toList) = true
    ·have e2 : (x.name.toList != y.name.toList) = false := by rw [bne, hn]; rfl
     have HN := Lib.hid hn
     by_cases hs : x.stamp = y.stamp
     ·have e3 : (x.stamp != y.stamp) = false := by simp [hs]
      have HST := Lib.hid hs;clear hs;obtain ⟨v, hv⟩ : ∃ v, sameL x.args y.args = v := ⟨_, rfl⟩;have HV := Lib.hid hv;clear hv;go_upto_region 6 with fail
      cases v
      ·have HNO : Hid (sameRo x y = false) := by show sameRo x y = false; unfold sameRo; rw [HV.out, Bool.and_false]
       go_region_held3 (fun w' => w'.cell? ⟨xb, xo + i * 3, none⟩ = some (.string x.name) ∧ w'.cell? ⟨xb, xo + i * 3 + 1, none⟩ = some (.slice xa x.args.length xc) ∧ w'.cell? ⟨xb, xo + i * 3 + 2, none⟩ = some (.int .i64 x.stamp) ∧ w'.cell? ⟨yb, yo + i * 3, none⟩ = some (.string y.name) ∧ w'.cell? ⟨yb, yo + i * 3 + 1, none⟩ = some (.slice ya y.args.length yc) ∧ w'.cell? ⟨yb, yo + i * 3 + 2, none⟩ = some (.int .i64 y.stamp))
        (first | (with_reducible exact ⟨p0, p1, p2, q0, q1, q2⟩) | (with_reducible exact ⟨(hb.cell (p := ⟨xb, xo + i * 3, none⟩) (cell_lt p0)).trans p0, (hb.cell (p := ⟨xb, xo + i * 3 + 1, none⟩) (cell_lt p1)).trans p1, (hb.cell (p := ⟨xb, xo + i * 3 + 2, none⟩) (cell_lt p2)).trans p2, (hb.cell (p := ⟨yb, yo + i * 3, none⟩) (cell_lt q0)).trans q0, (hb.cell (p := ⟨yb, yo + i * 3 + 1, none⟩) (cell_lt q1)).trans q1, (hb.cell (p := ⟨yb, yo + i * 3 + 2, none⟩) (cell_lt q2)).trans q2⟩))
        (first | (go_at_call 30; refine (values_of x.args y.args (fun z _ z' => same_any z z') _ _ _ _ (Nat.le_refl _) HXL.out HYL.out).mono ?_; rintro e w3 ⟨he, hb⟩; rw [HV.out] at he; subst he))
       have hbb : Below w.heap.size w w3 := Below.step HBD.out hb;clear hb p0 p1 p2 q0 q1 q2;go_wp2_with fail
       go_ret
       exact ⟨retB (by rw [HREC.out, HNO.out]; rfl), hbb⟩
      ·have HYES : Hid (sameRo x y = true) := by show sameRo x y = true; unfold sameRo; rw [HV.out, HN.out, HST.out]; simp
       go_region_held3 (fun w' => w'.cell? ⟨xb, xo + i * 3, none⟩ = some (.string x.name) ∧ w'.cell? ⟨xb, xo + i * 3 + 1, none⟩ = some (.slice xa x.args.length xc) ∧ w'.cell? ⟨xb, xo + i * 3 + 2, none⟩ = some (.int .i64 x.stamp) ∧ w'.cell? ⟨yb, yo + i * 3, none⟩ = some (.string y.name) ∧ w'.cell? ⟨yb, yo + i * 3 + 1, none⟩ = some (.slice ya y.args.length yc) ∧ w'.cell? ⟨yb, yo + i * 3 + 2, none⟩ = some (.int .i64 y.stamp))
        (first | (with_reducible exact ⟨p0, p1, p2, q0, q1, q2⟩) | (with_reducible exact ⟨(hb.cell (p := ⟨xb, xo + i * 3, none⟩) (cell_lt p0)).trans p0, (hb.cell (p := ⟨xb, xo + i * 3 + 1, none⟩) (cell_lt p1)).trans p1, (hb.cell (p := ⟨xb, xo + i * 3 + 2, none⟩) (cell_lt p2)).trans p2, (hb.cell (p := ⟨yb, yo + i * 3, none⟩) (cell_lt q0)).trans q0, (hb.cell (p := ⟨yb, yo + i * 3 + 1, none⟩) (cell_lt q1)).trans q1, (hb.cell (p := ⟨yb, yo + i * 3 + 2, none⟩) (cell_lt q2)).trans q2⟩))
        (first | (go_at_call 30; refine (values_of x.args y.args (fun z _ z' => same_any z z') _ _ _ _ (Nat.le_refl _) HXL.out HYL.out).mono ?_; rintro e w3 ⟨he, hb⟩; rw [HV.out] at he; subst he))
       have hbb : Below w.heap.size w w3 := Below.step HBD.out hb;clear hb p0 p1 p2 q0 q1 q2;go_wp2_with fail
       go_roundw
       case rel => exact ⟨i + 1, HLT.out, by go_num, by show _ = _; rw [HREC.out, HYES.out, Bool.true_and], hbb⟩
       case measure => have := HLT.out; simp [intOf]; omega
     ·have e3 : (x.stamp != y.stamp) = true := by simp [hs]
      have HNO : Hid (sameRo x y = false) := by show sameRo x y = false; unfold sameRo; simp [hs]
      have e4 : (x.stamp == y.stamp) = false := by simp [hs]
      have e5 : decide (x.stamp = y.stamp) = false := decide_eq_false hs;go_upto_region 6 with fail
      refine wp_region_factsG (by rfl) 55 (by rfl) (by kernel_rfl) (fun _ iz vz => (iz = 0 → vz = .slice (some ⟨xb, xo, none⟩) l.length ac) ∧ (iz = 1 → vz = .int .i64 (i : Int)) ∧ (iz = 2 → vz = .pointer (some ⟨xb, xo + i * 3, none⟩)) ∧ (iz = 3 → vz = .pointer (some ⟨xb, xo + i * 3, none⟩)) ∧ (iz = 4 → vz = .string x.name) ∧ (iz = 5 → vz = .slice (some ⟨yb, yo, none⟩) m.length bc) ∧ (iz = 6 → vz = .int .i64 (i : Int)) ∧ (iz = 7 → vz = .pointer (some ⟨yb, yo + i * 3, none⟩)) ∧ (iz = 8 → vz = .pointer (some ⟨yb, yo + i * 3, none⟩)) ∧ (iz = 9 → vz = .string y.name) ∧ (iz = 10 → vz = .bool false) ∧ (iz = 11 → vz = .bool false) ∧ (iz = 12 → vz = .slice (some ⟨xb, xo, none⟩) l.length ac) ∧ (iz = 13 → vz = .int .i64 (i : Int)) ∧ (iz = 14 → vz = .pointer (some ⟨xb, xo + i * 3, none⟩)) ∧ (iz = 15 → vz = .pointer (some ⟨xb, xo + i * 3 + 2, none⟩)) ∧ (iz = 16 → vz = .int .i64 x.stamp) ∧ (iz = 17 → vz = .slice (some ⟨yb, yo, none⟩) m.length bc) ∧ (iz = 18 → vz = .int .i64 (i : Int)) ∧ (iz = 19 → vz = .pointer (some ⟨yb, yo + i * 3, none⟩)) ∧ (iz = 20 → vz = .pointer (some ⟨yb, yo + i * 3 + 2, none⟩)) ∧ (iz = 21 → vz = .int .i64 y.stamp) ∧ (iz = 22 → vz = .bool true) ∧ (iz = 23 → vz = .bool true) ∧ (iz = 24 → vz = .bool true) ∧ (iz = 37 → vz = .bool true)) (fun w' => Below wr.drew.heap.size wr.drew w') (Below.refl _ _) ⟨?ras0, ?ras1, ?ras2, ?ras3, ?ras4, ?ras5, ?ras6, ?ras7, ?ras8, ?ras9, ?ras10, ?ras11, ?ras12, ?ras13, ?ras14, ?ras15, ?ras16, ?ras17, ?ras18, ?ras19, ?ras20, ?ras21, ?ras22, ?ras23, ?ras24, ?ras25, ?ras26, ?ras27, ?ras28, ?ras29, ?ras30, ?ras31, ?ras32, ?ras33, ?ras34, ?ras35, ?ras36, ?ras37, trivial⟩ ?rafin
      case ras0 =>
       intro a w' hoff hg hdep K hK;have h0 := off_at hoff 0 (v := .slice (some ⟨xb, xo, none⟩) l.length ac) (by kernel_rfl) rfl;rw [if_pos (by rfl)];go_simp;exact hK.out _ _ hg ⟨fun _ => rfl, nn,nn,nn,nn,nn,nn,nn,nn,nn,nn,nn,nn,nn,nn,nn,nn,nn,nn,nn,nn,nn,nn,nn,nn,nn⟩ (fun _ _ h => h)
      case ras1 =>
       intro a w' hoff hg hdep K hK;have h5 := off_at hoff 5 (v := .int .i64 (i : Int)) (by kernel_rfl) rfl;rw [if_pos (by rfl)];go_simp;exact hK.out _ _ hg ⟨nn, fun _ => rfl, nn,nn,nn,nn,nn,nn,nn,nn,nn,nn,nn,nn,nn,nn,nn,nn,nn,nn,nn,nn,nn,nn,nn,nn⟩ (fun _ _ h => h)
      case ras2 =>
       intro a w' hoff hg hdep K hK;obtain ⟨v0, e0, f0⟩ := hdep 0 _ 17 (by kernel_rfl) rfl rfl;obtain rfl := (f0.1 rfl).symm;obtain ⟨v1, e1, f1⟩ := hdep 1 _ 18 (by kernel_rfl) rfl rfl;obtain rfl := (f1.2.1 rfl).symm;rw [if_pos (by rfl)];go_simp;exact hK.out _ _ hg ⟨nn,nn, fun _ => rfl, nn,nn,nn,nn,nn,nn,nn,nn,nn,nn,nn,nn,nn,nn,nn,nn,nn,nn,nn,nn,nn,nn,nn⟩ (fun _ _ h => h)
      case ras3 =>
       intro a w' hoff hg hdep K hK;obtain ⟨v2, e2, f2⟩ := hdep 2 _ 19 (by kernel_rfl) rfl rfl;obtain rfl := (f2.2.2.1 rfl).symm;rw [if_pos (by rfl)];go_simp;exact hK.out _ _ hg ⟨nn,nn,nn, fun _ => rfl, nn,nn,nn,nn,nn,nn,nn,nn,nn,nn,nn,nn,nn,nn,nn,nn,nn,nn,nn,nn,nn,nn⟩ (fun _ _ h => h)
      case ras4 =>
       intro a w' hoff hg hdep K hK;obtain ⟨v3, e3, f3⟩ := hdep 3 _ 20 (by kernel_rfl) rfl rfl;obtain rfl := (f3.2.2.2.1 rfl).symm;rw [if_pos (by rfl)];have p0 := (hg.cell (p := ⟨xb, xo + i * 3, none⟩) (cell_lt p0)).trans p0; have p1 := (hg.cell (p := ⟨xb, xo + i * 3 + 1, none⟩) (cell_lt p1)).trans p1; have p2 := (hg.cell (p := ⟨xb, xo + i * 3 + 2, none⟩) (cell_lt p2)).trans p2; have q0 := (hg.cell (p := ⟨yb, yo + i * 3, none⟩) (cell_lt q0)).trans q0; have q1 := (hg.cell (p := ⟨yb, yo + i * 3 + 1, none⟩) (cell_lt q1)).trans q1; have q2 := (hg.cell (p := ⟨yb, yo + i * 3 + 2, none⟩) (cell_lt q2)).trans q2
       go_simp;exact hK.out _ _ hg ⟨nn,nn,nn,nn, fun _ => rfl, nn,nn,nn,nn,nn,nn,nn,nn,nn,nn,nn,nn,nn,nn,nn,nn,nn,nn,nn,nn,nn⟩ (fun _ _ h => h)
      case ras5 =>
       intro a w' hoff hg hdep K hK;have h1 := off_at hoff 1 (v := .slice (some ⟨yb, yo, none⟩) m.length bc) (by kernel_rfl) rfl;rw [if_pos (by rfl)];go_simp;exact hK.out _ _ hg ⟨nn,nn,nn,nn,nn, fun _ => rfl, nn,nn,nn,nn,nn,nn,nn,nn,nn,nn,nn,nn,nn,nn,nn,nn,nn,nn,nn,nn⟩ (fun _ _ h => h)
      case ras6 =>
       intro a w' hoff hg hdep K hK;have h5 := off_at hoff 5 (v := .int .i64 (i : Int)) (by kernel_rfl) rfl;rw [if_pos (by rfl)];go_simp;exact hK.out _ _ hg ⟨nn,nn,nn,nn,nn,nn, fun _ => rfl, nn,nn,nn,nn,nn,nn,nn,nn,nn,nn,nn,nn,nn,nn,nn,nn,nn,nn,nn⟩ (fun _ _ h => h)
      case ras7 =>
       intro a w' hoff hg hdep K hK;obtain ⟨v5, e5, f5⟩ := hdep 5 _ 22 (by kernel_rfl) rfl rfl;obtain rfl := (f5.2.2.2.2.2.1 rfl).symm;obtain ⟨v6, e6, f6⟩ := hdep 6 _ 23 (by kernel_rfl) rfl rfl;obtain rfl := (f6.2.2.2.2.2.2.1 rfl).symm;rw [if_pos (by rfl)];go_simp;exact hK.out _ _ hg ⟨nn,nn,nn,nn,nn,nn,nn, fun _ => rfl, nn,nn,nn,nn,nn,nn,nn,nn,nn,nn,nn,nn,nn,nn,nn,nn,nn,nn⟩ (fun _ _ h => h)
      case ras8 =>
       intro a w' hoff hg hdep K hK;obtain ⟨v7, e7, f7⟩ := hdep 7 _ 24 (by kernel_rfl) rfl rfl;obtain rfl := (f7.2.2.2.2.2.2.2.1 rfl).symm;rw [if_pos (by rfl)];go_simp;exact hK.out _ _ hg ⟨nn,nn,nn,nn,nn,nn,nn,nn, fun _ => rfl, nn,nn,nn,nn,nn,nn,nn,nn,nn,nn,nn,nn,nn,nn,nn,nn,nn⟩ (fun _ _ h => h)
      case ras9 =>
       intro a w' hoff hg hdep K hK;obtain ⟨v8, e8, f8⟩ := hdep 8 _ 25 (by kernel_rfl) rfl rfl;obtain rfl := (f8.2.2.2.2.2.2.2.2.1 rfl).symm;rw [if_pos (by rfl)];have p0 := (hg.cell (p := ⟨xb, xo + i * 3, none⟩) (cell_lt p0)).trans p0; have p1 := (hg.cell (p := ⟨xb, xo + i * 3 + 1, none⟩) (cell_lt p1)).trans p1; have p2 := (hg.cell (p := ⟨xb, xo + i * 3 + 2, none⟩) (cell_lt p2)).trans p2; have q0 := (hg.cell (p := ⟨yb, yo + i * 3, none⟩) (cell_lt q0)).trans q0; have q1 := (hg.cell (p := ⟨yb, yo + i * 3 + 1, none⟩) (cell_lt q1)).trans q1; have q2 := (hg.cell (p := ⟨yb, yo + i * 3 + 2, none⟩) (cell_lt q2)).trans q2
       go_simp;exact hK.out _ _ hg ⟨nn,nn,nn,nn,nn,nn,nn,nn,nn, fun _ => rfl, nn,nn,nn,nn,nn,nn,nn,nn,nn,nn,nn,nn,nn,nn,nn,nn⟩ (fun _ _ h => h)
      case ras10 =>
       intro a w' hoff hg hdep K hK;obtain ⟨v4, e4, f4⟩ := hdep 4 _ 21 (by kernel_rfl) rfl rfl;obtain rfl := (f4.2.2.2.2.1 rfl).symm;obtain ⟨v9, e9, f9⟩ := hdep 9 _ 26 (by kernel_rfl) rfl rfl;obtain rfl := (f9.2.2.2.2.2.2.2.2.2.1 rfl).symm;rw [if_pos (by rfl)];go_simp;exact hK.out _ _ hg ⟨nn,nn,nn,nn,nn,nn,nn,nn,nn,nn, fun _ => rfl, nn,nn,nn,nn,nn,nn,nn,nn,nn,nn,nn,nn,nn,nn,nn⟩ (fun _ _ h => h)
      case ras11 =>
       intro a w' hoff hg hdep K hK;obtain ⟨v10, e10, f10⟩ := hdep 10 _ 27 (by kernel_rfl) rfl rfl;obtain rfl := (f10.2.2.2.2.2.2.2.2.2.2.1 rfl).symm;rw [if_pos (by rfl)];go_simp;exact hK.out _ _ hg ⟨nn,nn,nn,nn,nn,nn,nn,nn,nn,nn,nn, fun _ => rfl, nn,nn,nn,nn,nn,nn,nn,nn,nn,nn,nn,nn,nn,nn⟩ (fun _ _ h => h)
      case ras12 =>
       intro a w' hoff hg hdep K hK;have h0 := off_at hoff 0 (v := .slice (some ⟨xb, xo, none⟩) l.length ac) (by kernel_rfl) rfl;obtain ⟨v11, e11, f11⟩ := hdep 11 _ 28 (by kernel_rfl) rfl rfl;obtain rfl := (f11.2.2.2.2.2.2.2.2.2.2.2.1 rfl).symm;rw [if_pos (by simp [Region.wanted, yielded, e11])];go_simp;exact hK.out _ _ hg ⟨nn,nn,nn,nn,nn,nn,nn,nn,nn,nn,nn,nn, fun _ => rfl, nn,nn,nn,nn,nn,nn,nn,nn,nn,nn,nn,nn,nn⟩ (fun _ _ h => h)
      case ras13 =>
       intro a w' hoff hg hdep K hK;have h5 := off_at hoff 5 (v := .int .i64 (i : Int)) (by kernel_rfl) rfl;obtain ⟨v11, e11, f11⟩ := hdep 11 _ 28 (by kernel_rfl) rfl rfl;obtain rfl := (f11.2.2.2.2.2.2.2.2.2.2.2.1 rfl).symm;rw [if_pos (by simp [Region.wanted, yielded, e11])];go_simp;exact hK.out _ _ hg ⟨nn,nn,nn,nn,nn,nn,nn,nn,nn,nn,nn,nn,nn, fun _ => rfl, nn,nn,nn,nn,nn,nn,nn,nn,nn,nn,nn,nn⟩ (fun _ _ h => h)
      case ras14 =>
       intro a w' hoff hg hdep K hK;obtain ⟨v12, e12, f12⟩ := hdep 12 _ 29 (by kernel_rfl) rfl rfl;obtain rfl := (f12.2.2.2.2.2.2.2.2.2.2.2.2.1 rfl).symm;obtain ⟨v13, e13, f13⟩ := hdep 13 _ 30 (by kernel_rfl) rfl rfl;obtain rfl := (f13.2.2.2.2.2.2.2.2.2.2.2.2.2.1 rfl).symm;obtain ⟨v11, e11, f11⟩ := hdep 11 _ 28 (by kernel_rfl) rfl rfl;obtain rfl := (f11.2.2.2.2.2.2.2.2.2.2.2.1 rfl).symm;rw [if_pos (by simp [Region.wanted, yielded, e11])];go_simp;exact hK.out _ _ hg ⟨nn,nn,nn,nn,nn,nn,nn,nn,nn,nn,nn,nn,nn,nn, fun _ => rfl, nn,nn,nn,nn,nn,nn,nn,nn,nn,nn,nn⟩ (fun _ _ h => h)
      case ras15 =>
       intro a w' hoff hg hdep K hK;obtain ⟨v14, e14, f14⟩ := hdep 14 _ 31 (by kernel_rfl) rfl rfl;obtain rfl := (f14.2.2.2.2.2.2.2.2.2.2.2.2.2.2.1 rfl).symm;obtain ⟨v11, e11, f11⟩ := hdep 11 _ 28 (by kernel_rfl) rfl rfl;obtain rfl := (f11.2.2.2.2.2.2.2.2.2.2.2.1 rfl).symm;rw [if_pos (by simp [Region.wanted, yielded, e11])];go_simp;exact hK.out _ _ hg ⟨nn,nn,nn,nn,nn,nn,nn,nn,nn,nn,nn,nn,nn,nn,nn, fun _ => rfl, nn,nn,nn,nn,nn,nn,nn,nn,nn,nn⟩ (fun _ _ h => h)
      case ras16 =>
       intro a w' hoff hg hdep K hK;obtain ⟨v15, e15, f15⟩ := hdep 15 _ 32 (by kernel_rfl) rfl rfl;obtain rfl := (f15.2.2.2.2.2.2.2.2.2.2.2.2.2.2.2.1 rfl).symm;obtain ⟨v11, e11, f11⟩ := hdep 11 _ 28 (by kernel_rfl) rfl rfl;obtain rfl := (f11.2.2.2.2.2.2.2.2.2.2.2.1 rfl).symm;rw [if_pos (by simp [Region.wanted, yielded, e11])];have p0 := (hg.cell (p := ⟨xb, xo + i * 3, none⟩) (cell_lt p0)).trans p0; have p1 := (hg.cell (p := ⟨xb, xo + i * 3 + 1, none⟩) (cell_lt p1)).trans p1; have p2 := (hg.cell (p := ⟨xb, xo + i * 3 + 2, none⟩) (cell_lt p2)).trans p2; have q0 := (hg.cell (p := ⟨yb, yo + i * 3, none⟩) (cell_lt q0)).trans q0; have q1 := (hg.cell (p := ⟨yb, yo + i * 3 + 1, none⟩) (cell_lt q1)).trans q1; have q2 := (hg.cell (p := ⟨yb, yo + i * 3 + 2, none⟩) (cell_lt q2)).trans q2
       go_simp;exact hK.out _ _ hg ⟨nn,nn,nn,nn,nn,nn,nn,nn,nn,nn,nn,nn,nn,nn,nn,nn, fun _ => rfl, nn,nn,nn,nn,nn,nn,nn,nn,nn⟩ (fun _ _ h => h)
      case ras17 =>
       intro a w' hoff hg hdep K hK;have h1 := off_at hoff 1 (v := .slice (some ⟨yb, yo, none⟩) m.length bc) (by kernel_rfl) rfl;obtain ⟨v11, e11, f11⟩ := hdep 11 _ 28 (by kernel_rfl) rfl rfl;obtain rfl := (f11.2.2.2.2.2.2.2.2.2.2.2.1 rfl).symm;rw [if_pos (by simp [Region.wanted, yielded, e11])];go_simp;exact hK.out _ _ hg ⟨nn,nn,nn,nn,nn,nn,nn,nn,nn,nn,nn,nn,nn,nn,nn,nn,nn, fun _ => rfl, nn,nn,nn,nn,nn,nn,nn,nn⟩ (fun _ _ h => h)
      case ras18 =>
       intro a w' hoff hg hdep K hK;have h5 := off_at hoff 5 (v := .int .i64 (i : Int)) (by kernel_rfl) rfl;obtain ⟨v11, e11, f11⟩ := hdep 11 _ 28 (by kernel_rfl) rfl rfl;obtain rfl := (f11.2.2.2.2.2.2.2.2.2.2.2.1 rfl).symm;rw [if_pos (by simp [Region.wanted, yielded, e11])];go_simp;exact hK.out _ _ hg ⟨nn,nn,nn,nn,nn,nn,nn,nn,nn,nn,nn,nn,nn,nn,nn,nn,nn,nn, fun _ => rfl, nn,nn,nn,nn,nn,nn,nn⟩ (fun _ _ h => h)
      case ras19 =>
       intro a w' hoff hg hdep K hK;obtain ⟨v17, e17, f17⟩ := hdep 17 _ 34 (by kernel_rfl) rfl rfl;obtain rfl := (f17.2.2.2.2.2.2.2.2.2.2.2.2.2.2.2.2.2.1 rfl).symm;obtain ⟨v18, e18, f18⟩ := hdep 18 _ 35 (by kernel_rfl) rfl rfl;obtain rfl := (f18.2.2.2.2.2.2.2.2.2.2.2.2.2.2.2.2.2.2.1 rfl).symm;obtain ⟨v11, e11, f11⟩ := hdep 11 _ 28 (by kernel_rfl) rfl rfl;obtain rfl := (f11.2.2.2.2.2.2.2.2.2.2.2.1 rfl).symm;rw [if_pos (by simp [Region.wanted, yielded, e11])];go_simp;exact hK.out _ _ hg ⟨nn,nn,nn,nn,nn,nn,nn,nn,nn,nn,nn,nn,nn,nn,nn,nn,nn,nn,nn, fun _ => rfl, nn,nn,nn,nn,nn,nn⟩ (fun _ _ h => h)
      case ras20 =>
       intro a w' hoff hg hdep K hK;obtain ⟨v19, e19, f19⟩ := hdep 19 _ 36 (by kernel_rfl) rfl rfl;obtain rfl := (f19.2.2.2.2.2.2.2.2.2.2.2.2.2.2.2.2.2.2.2.1 rfl).symm;obtain ⟨v11, e11, f11⟩ := hdep 11 _ 28 (by kernel_rfl) rfl rfl;obtain rfl := (f11.2.2.2.2.2.2.2.2.2.2.2.1 rfl).symm;rw [if_pos (by simp [Region.wanted, yielded, e11])];go_simp;exact hK.out _ _ hg ⟨nn,nn,nn,nn,nn,nn,nn,nn,nn,nn,nn,nn,nn,nn,nn,nn,nn,nn,nn,nn, fun _ => rfl, nn,nn,nn,nn,nn⟩ (fun _ _ h => h)
      case ras21 =>
       intro a w' hoff hg hdep K hK;obtain ⟨v20, e20, f20⟩ := hdep 20 _ 37 (by kernel_rfl) rfl rfl;obtain rfl := (f20.2.2.2.2.2.2.2.2.2.2.2.2.2.2.2.2.2.2.2.2.1 rfl).symm;obtain ⟨v11, e11, f11⟩ := hdep 11 _ 28 (by kernel_rfl) rfl rfl;obtain rfl := (f11.2.2.2.2.2.2.2.2.2.2.2.1 rfl).symm;rw [if_pos (by simp [Region.wanted, yielded, e11])];have p0 := (hg.cell (p := ⟨xb, xo + i * 3, none⟩) (cell_lt p0)).trans p0; have p1 := (hg.cell (p := ⟨xb, xo + i * 3 + 1, none⟩) (cell_lt p1)).trans p1; have p2 := (hg.cell (p := ⟨xb, xo + i * 3 + 2, none⟩) (cell_lt p2)).trans p2; have q0 := (hg.cell (p := ⟨yb, yo + i * 3, none⟩) (cell_lt q0)).trans q0; have q1 := (hg.cell (p := ⟨yb, yo + i * 3 + 1, none⟩) (cell_lt q1)).trans q1; have q2 := (hg.cell (p := ⟨yb, yo + i * 3 + 2, none⟩) (cell_lt q2)).trans q2
       go_simp;exact hK.out _ _ hg ⟨nn,nn,nn,nn,nn,nn,nn,nn,nn,nn,nn,nn,nn,nn,nn,nn,nn,nn,nn,nn,nn, fun _ => rfl, nn,nn,nn,nn⟩ (fun _ _ h => h)
      case ras22 =>
       intro a w' hoff hg hdep K hK;obtain ⟨v16, e16, f16⟩ := hdep 16 _ 33 (by kernel_rfl) rfl rfl;obtain rfl := (f16.2.2.2.2.2.2.2.2.2.2.2.2.2.2.2.2.1 rfl).symm;obtain ⟨v21, e21, f21⟩ := hdep 21 _ 38 (by kernel_rfl) rfl rfl;obtain rfl := (f21.2.2.2.2.2.2.2.2.2.2.2.2.2.2.2.2.2.2.2.2.2.1 rfl).symm;obtain ⟨v11, e11, f11⟩ := hdep 11 _ 28 (by kernel_rfl) rfl rfl;obtain rfl := (f11.2.2.2.2.2.2.2.2.2.2.2.1 rfl).symm;rw [if_pos (by simp [Region.wanted, yielded, e11])];go_simp;exact hK.out _ _ hg ⟨nn,nn,nn,nn,nn,nn,nn,nn,nn,nn,nn,nn,nn,nn,nn,nn,nn,nn,nn,nn,nn,nn, fun _ => rfl, nn,nn,nn⟩ (fun _ _ h => h)
      case ras23 =>
       intro a w' hoff hg hdep K hK;obtain ⟨v11, e11, f11⟩ := hdep 11 _ 28 (by kernel_rfl) rfl rfl;obtain rfl := (f11.2.2.2.2.2.2.2.2.2.2.2.1 rfl).symm;obtain ⟨v22, e22, f22⟩ := hdep 22 _ 39 (by kernel_rfl) rfl rfl;obtain rfl := (f22.2.2.2.2.2.2.2.2.2.2.2.2.2.2.2.2.2.2.2.2.2.2.1 rfl).symm;rw [if_pos (by rfl)];go_simp;exact hK.out _ _ hg ⟨nn,nn,nn,nn,nn,nn,nn,nn,nn,nn,nn,nn,nn,nn,nn,nn,nn,nn,nn,nn,nn,nn,nn, fun _ => rfl, nn,nn⟩ (fun _ _ h => h)
      case ras24 =>
       intro a w' hoff hg hdep K hK;obtain ⟨v23, e23, f23⟩ := hdep 23 _ 40 (by kernel_rfl) rfl rfl;obtain rfl := (f23.2.2.2.2.2.2.2.2.2.2.2.2.2.2.2.2.2.2.2.2.2.2.2.1 rfl).symm;rw [if_pos (by rfl)];go_simp;exact hK.out _ _ hg ⟨nn,nn,nn,nn,nn,nn,nn,nn,nn,nn,nn,nn,nn,nn,nn,nn,nn,nn,nn,nn,nn,nn,nn,nn, fun _ => rfl, nn⟩ (fun _ _ h => h)
      case ras25 =>
       intro a w' hoff hg hdep K hK;obtain ⟨v24, e24, f24⟩ := hdep 24 _ 41 (by kernel_rfl) rfl rfl;obtain rfl := (f24.2.2.2.2.2.2.2.2.2.2.2.2.2.2.2.2.2.2.2.2.2.2.2.2.1 rfl).symm;rw [if_neg (by simp [Region.wanted, yielded, e24])];exact hK.out _ _ hg ⟨nn,nn,nn,nn,nn,nn,nn,nn,nn,nn,nn,nn,nn,nn,nn,nn,nn,nn,nn,nn,nn,nn,nn,nn,nn,nn⟩ (fun _ _ h => h)
      case ras26 =>
       intro a w' hoff hg hdep K hK;obtain ⟨v24, e24, f24⟩ := hdep 24 _ 41 (by kernel_rfl) rfl rfl;obtain rfl := (f24.2.2.2.2.2.2.2.2.2.2.2.2.2.2.2.2.2.2.2.2.2.2.2.2.1 rfl).symm;rw [if_neg (by simp [Region.wanted, yielded, e24])];exact hK.out _ _ hg ⟨nn,nn,nn,nn,nn,nn,nn,nn,nn,nn,nn,nn,nn,nn,nn,nn,nn,nn,nn,nn,nn,nn,nn,nn,nn,nn⟩ (fun _ _ h => h)
      case ras27 =>
       intro a w' hoff hg hdep K hK;obtain ⟨v24, e24, f24⟩ := hdep 24 _ 41 (by kernel_rfl) rfl rfl;obtain rfl := (f24.2.2.2.2.2.2.2.2.2.2.2.2.2.2.2.2.2.2.2.2.2.2.2.2.1 rfl).symm;rw [if_neg (by simp [Region.wanted, yielded, e24])];exact hK.out _ _ hg ⟨nn,nn,nn,nn,nn,nn,nn,nn,nn,nn,nn,nn,nn,nn,nn,nn,nn,nn,nn,nn,nn,nn,nn,nn,nn,nn⟩ (fun _ _ h => h)
      case ras28 =>
       intro a w' hoff hg hdep K hK;obtain ⟨v24, e24, f24⟩ := hdep 24 _ 41 (by kernel_rfl) rfl rfl;obtain rfl := (f24.2.2.2.2.2.2.2.2.2.2.2.2.2.2.2.2.2.2.2.2.2.2.2.2.1 rfl).symm;rw [if_neg (by simp [Region.wanted, yielded, e24])];exact hK.out _ _ hg ⟨nn,nn,nn,nn,nn,nn,nn,nn,nn,nn,nn,nn,nn,nn,nn,nn,nn,nn,nn,nn,nn,nn,nn,nn,nn,nn⟩ (fun _ _ h => h)
      case ras29 =>
       intro a w' hoff hg hdep K hK;obtain ⟨v24, e24, f24⟩ := hdep 24 _ 41 (by kernel_rfl) rfl rfl;obtain rfl := (f24.2.2.2.2.2.2.2.2.2.2.2.2.2.2.2.2.2.2.2.2.2.2.2.2.1 rfl).symm;rw [if_neg (by simp [Region.wanted, yielded, e24])];exact hK.out _ _ hg ⟨nn,nn,nn,nn,nn,nn,nn,nn,nn,nn,nn,nn,nn,nn,nn,nn,nn,nn,nn,nn,nn,nn,nn,nn,nn,nn⟩ (fun _ _ h => h)
      case ras30 =>
       intro a w' hoff hg hdep K hK;obtain ⟨v24, e24, f24⟩ := hdep 24 _ 41 (by kernel_rfl) rfl rfl;obtain rfl := (f24.2.2.2.2.2.2.2.2.2.2.2.2.2.2.2.2.2.2.2.2.2.2.2.2.1 rfl).symm;rw [if_neg (by simp [Region.wanted, yielded, e24])];exact hK.out _ _ hg ⟨nn,nn,nn,nn,nn,nn,nn,nn,nn,nn,nn,nn,nn,nn,nn,nn,nn,nn,nn,nn,nn,nn,nn,nn,nn,nn⟩ (fun _ _ h => h)
      case ras31 =>
       intro a w' hoff hg hdep K hK;obtain ⟨v24, e24, f24⟩ := hdep 24 _ 41 (by kernel_rfl) rfl rfl;obtain rfl := (f24.2.2.2.2.2.2.2.2.2.2.2.2.2.2.2.2.2.2.2.2.2.2.2.2.1 rfl).symm;rw [if_neg (by simp [Region.wanted, yielded, e24])];exact hK.out _ _ hg ⟨nn,nn,nn,nn,nn,nn,nn,nn,nn,nn,nn,nn,nn,nn,nn,nn,nn,nn,nn,nn,nn,nn,nn,nn,nn,nn⟩ (fun _ _ h => h)
      case ras32 =>
       intro a w' hoff hg hdep K hK;obtain ⟨v24, e24, f24⟩ := hdep 24 _ 41 (by kernel_rfl) rfl rfl;obtain rfl := (f24.2.2.2.2.2.2.2.2.2.2.2.2.2.2.2.2.2.2.2.2.2.2.2.2.1 rfl).symm;rw [if_neg (by simp [Region.wanted, yielded, e24])];exact hK.out _ _ hg ⟨nn,nn,nn,nn,nn,nn,nn,nn,nn,nn,nn,nn,nn,nn,nn,nn,nn,nn,nn,nn,nn,nn,nn,nn,nn,nn⟩ (fun _ _ h => h)
      case ras33 =>
       intro a w' hoff hg hdep K hK;obtain ⟨v24, e24, f24⟩ := hdep 24 _ 41 (by kernel_rfl) rfl rfl;obtain rfl := (f24.2.2.2.2.2.2.2.2.2.2.2.2.2.2.2.2.2.2.2.2.2.2.2.2.1 rfl).symm;rw [if_neg (by simp [Region.wanted, yielded, e24])];exact hK.out _ _ hg ⟨nn,nn,nn,nn,nn,nn,nn,nn,nn,nn,nn,nn,nn,nn,nn,nn,nn,nn,nn,nn,nn,nn,nn,nn,nn,nn⟩ (fun _ _ h => h)
      case ras34 =>
       intro a w' hoff hg hdep K hK;obtain ⟨v24, e24, f24⟩ := hdep 24 _ 41 (by kernel_rfl) rfl rfl;obtain rfl := (f24.2.2.2.2.2.2.2.2.2.2.2.2.2.2.2.2.2.2.2.2.2.2.2.2.1 rfl).symm;rw [if_neg (by simp [Region.wanted, yielded, e24])];exact hK.out _ _ hg ⟨nn,nn,nn,nn,nn,nn,nn,nn,nn,nn,nn,nn,nn,nn,nn,nn,nn,nn,nn,nn,nn,nn,nn,nn,nn,nn⟩ (fun _ _ h => h)
      case ras35 =>
       intro a w' hoff hg hdep K hK;obtain ⟨v24, e24, f24⟩ := hdep 24 _ 41 (by kernel_rfl) rfl rfl;obtain rfl := (f24.2.2.2.2.2.2.2.2.2.2.2.2.2.2.2.2.2.2.2.2.2.2.2.2.1 rfl).symm;rw [if_neg (by simp [Region.wanted, yielded, e24])];exact hK.out _ _ hg ⟨nn,nn,nn,nn,nn,nn,nn,nn,nn,nn,nn,nn,nn,nn,nn,nn,nn,nn,nn,nn,nn,nn,nn,nn,nn,nn⟩ (fun _ _ h => h)
      case ras36 =>
       intro a w' hoff hg hdep K hK;obtain ⟨v24, e24, f24⟩ := hdep 24 _ 41 (by kernel_rfl) rfl rfl;obtain rfl := (f24.2.2.2.2.2.2.2.2.2.2.2.2.2.2.2.2.2.2.2.2.2.2.2.2.1 rfl).symm;rw [if_neg (by simp [Region.wanted, yielded, e24])];exact hK.out _ _ hg ⟨nn,nn,nn,nn,nn,nn,nn,nn,nn,nn,nn,nn,nn,nn,nn,nn,nn,nn,nn,nn,nn,nn,nn,nn,nn,nn⟩ (fun _ _ h => h)
      case ras37 =>
       intro a w' hoff hg hdep K hK;obtain ⟨v24, e24, f24⟩ := hdep 24 _ 41 (by kernel_rfl) rfl rfl;obtain rfl := (f24.2.2.2.2.2.2.2.2.2.2.2.2.2.2.2.2.2.2.2.2.2.2.2.2.1 rfl).symm;obtain ⟨v36, e36, f36⟩ := hdep 36 _ 53 (by kernel_rfl) rfl rfl;rw [if_pos (by rfl)];go_simp;exact hK.out _ _ hg ⟨nn,nn,nn,nn,nn,nn,nn,nn,nn,nn,nn,nn,nn,nn,nn,nn,nn,nn,nn,nn,nn,nn,nn,nn,nn, fun _ => rfl⟩ (fun _ _ h => h)
      intro a w9 hoff hg hf;obtain ⟨v0, e0, f0⟩ := hf 0 _ 17 rfl rfl;obtain rfl := (f0.1 rfl).symm;obtain ⟨v1, e1, f1⟩ := hf 1 _ 18 rfl rfl;obtain rfl := (f1.2.1 rfl).symm;obtain ⟨v2, e2, f2⟩ := hf 2 _ 19 rfl rfl;obtain rfl := (f2.2.2.1 rfl).symm;obtain ⟨v3, e3, f3⟩ := hf 3 _ 20 rfl rfl;obtain rfl := (f3.2.2.2.1 rfl).symm;obtain ⟨v4, e4, f4⟩ := hf 4 _ 21 rfl rfl;obtain rfl := (f4.2.2.2.2.1 rfl).symm;obtain ⟨v5, e5, f5⟩ := hf 5 _ 22 rfl rfl;obtain rfl := (f5.2.2.2.2.2.1 rfl).symm;obtain ⟨v6, e6, f6⟩ := hf 6 _ 23 rfl rfl;obtain rfl := (f6.2.2.2.2.2.2.1 rfl).symm;obtain ⟨v7, e7, f7⟩ := hf 7 _ 24 rfl rfl;obtain rfl := (f7.2.2.2.2.2.2.2.1 rfl).symm;obtain ⟨v8, e8, f8⟩ := hf 8 _ 25 rfl rfl;obtain rfl := (f8.2.2.2.2.2.2.2.2.1 rfl).symm;obtain ⟨v9, e9, f9⟩ := hf 9 _ 26 rfl rfl;obtain rfl := (f9.2.2.2.2.2.2.2.2.2.1 rfl).symm;obtain ⟨v10, e10, f10⟩ := hf 10 _ 27 rfl rfl;obtain rfl := (f10.2.2.2.2.2.2.2.2.2.2.1 rfl).symm;obtain ⟨v11, e11, f11⟩ := hf 11 _ 28 rfl rfl;obtain rfl := (f11.2.2.2.2.2.2.2.2.2.2.2.1 rfl).symm;obtain ⟨v12, e12, f12⟩ := hf 12 _ 29 rfl rfl;obtain rfl := (f12.2.2.2.2.2.2.2.2.2.2.2.2.1 rfl).symm;obtain ⟨v13, e13, f13⟩ := hf 13 _ 30 rfl rfl;obtain rfl := (f13.2.2.2.2.2.2.2.2.2.2.2.2.2.1 rfl).symm;obtain ⟨v14, e14, f14⟩ := hf 14 _ 31 rfl rfl;obtain rfl := (f14.2.2.2.2.2.2.2.2.2.2.2.2.2.2.1 rfl).symm;obtain ⟨v15, e15, f15⟩ := hf 15 _ 32 rfl rfl;obtain rfl := (f15.2.2.2.2.2.2.2.2.2.2.2.2.2.2.2.1 rfl).symm;obtain ⟨v16, e16, f16⟩ := hf 16 _ 33 rfl rfl;obtain rfl := (f16.2.2.2.2.2.2.2.2.2.2.2.2.2.2.2.2.1 rfl).symm;obtain ⟨v17, e17, f17⟩ := hf 17 _ 34 rfl rfl;obtain rfl := (f17.2.2.2.2.2.2.2.2.2.2.2.2.2.2.2.2.2.1 rfl).symm;obtain ⟨v18, e18, f18⟩ := hf 18 _ 35 rfl rfl;obtain rfl := (f18.2.2.2.2.2.2.2.2.2.2.2.2.2.2.2.2.2.2.1 rfl).symm;obtain ⟨v19, e19, f19⟩ := hf 19 _ 36 rfl rfl;obtain rfl := (f19.2.2.2.2.2.2.2.2.2.2.2.2.2.2.2.2.2.2.2.1 rfl).symm;obtain ⟨v20, e20, f20⟩ := hf 20 _ 37 rfl rfl;obtain rfl := (f20.2.2.2.2.2.2.2.2.2.2.2.2.2.2.2.2.2.2.2.2.1 rfl).symm;obtain ⟨v21, e21, f21⟩ := hf 21 _ 38 rfl rfl;obtain rfl := (f21.2.2.2.2.2.2.2.2.2.2.2.2.2.2.2.2.2.2.2.2.2.1 rfl).symm;obtain ⟨v22, e22, f22⟩ := hf 22 _ 39 rfl rfl;obtain rfl := (f22.2.2.2.2.2.2.2.2.2.2.2.2.2.2.2.2.2.2.2.2.2.2.1 rfl).symm;obtain ⟨v23, e23, f23⟩ := hf 23 _ 40 rfl rfl;obtain rfl := (f23.2.2.2.2.2.2.2.2.2.2.2.2.2.2.2.2.2.2.2.2.2.2.2.1 rfl).symm;obtain ⟨v24, e24, f24⟩ := hf 24 _ 41 rfl rfl;obtain rfl := (f24.2.2.2.2.2.2.2.2.2.2.2.2.2.2.2.2.2.2.2.2.2.2.2.2.1 rfl).symm;obtain ⟨v25, e25, f25⟩ := hf 25 _ 42 rfl rfl;obtain ⟨v26, e26, f26⟩ := hf 26 _ 43 rfl rfl;obtain ⟨v27, e27, f27⟩ := hf 27 _ 44 rfl rfl;obtain ⟨v28, e28, f28⟩ := hf 28 _ 45 rfl rfl;obtain ⟨v29, e29, f29⟩ := hf 29 _ 46 rfl rfl;obtain ⟨v30, e30, f30⟩ := hf 30 _ 47 rfl rfl;obtain ⟨v31, e31, f31⟩ := hf 31 _ 48 rfl rfl;obtain ⟨v32, e32, f32⟩ := hf 32 _ 49 rfl rfl;obtain ⟨v33, e33, f33⟩ := hf 33 _ 50 rfl rfl;obtain ⟨v34, e34, f34⟩ := hf 34 _ 51 rfl rfl;obtain ⟨v35, e35, f35⟩ := hf 35 _ 52 rfl rfl
      obtain ⟨v36, e36, f36⟩ := hf 36 _ 53 rfl rfl;obtain ⟨v37, e37, f37⟩ := hf 37 _ 54 rfl rfl;obtain rfl := (f37.2.2.2.2.2.2.2.2.2.2.2.2.2.2.2.2.2.2.2.2.2.2.2.2.2 rfl).symm;rw [hoff.sets [(17, .slice (some ⟨xb, xo, none⟩) l.length ac), (18, .int .i64 (i : Int)), (19, .pointer (some ⟨xb, xo + i * 3, none⟩)), (20, .pointer (some ⟨xb, xo + i * 3, none⟩)), (21, .string x.name), (22, .slice (some ⟨yb, yo, none⟩) m.length bc), (23, .int .i64 (i : Int)), (24, .pointer (some ⟨yb, yo + i * 3, none⟩)), (25, .pointer (some ⟨yb, yo + i * 3, none⟩)), (26, .string y.name), (27, .bool false), (28, .bool false), (29, .slice (some ⟨xb, xo, none⟩) l.length ac), (30, .int .i64 (i : Int)), (31, .pointer (some ⟨xb, xo + i * 3, none⟩)), (32, .pointer (some ⟨xb, xo + i * 3 + 2, none⟩)), (33, .int .i64 x.stamp), (34, .slice (some ⟨yb, yo, none⟩) m.length bc), (35, .int .i64 (i : Int)), (36, .pointer (some ⟨yb, yo + i * 3, none⟩)), (37, .pointer (some ⟨yb, yo + i * 3 + 2, none⟩)), (38, .int .i64 y.stamp), (39, .bool true), (40, .bool true), (41, .bool true), (42, v25), (43, v26), (44, v27), (45, v28), (46, v29), (47, v30), (48, v31), (49, v32), (50, v33), (51, v34), (52, v35), (53, v36), (54, .bool true)] (by kernel_rfl) (by intro p hp; simp only [List.mem_cons, List.not_mem_nil, or_false] at hp; rcases hp with rfl | rfl | rfl | rfl | rfl | rfl | rfl | rfl | rfl | rfl | rfl | rfl | rfl | rfl | rfl | rfl | rfl | rfl | rfl | rfl | rfl | rfl | rfl | rfl | rfl | rfl | rfl | rfl | rfl | rfl | rfl | rfl | rfl | rfl | rfl | rfl | rfl | rfl <;> assumption)];clear hoff hf e0 f0 e1 f1 e2 f2 e3 f3 e4 f4 e5 f5 e6 f6 e7 f7 e8 f8 e9 f9 e10 f10 e11 f11 e12 f12 e13 f13 e14 f14 e15 f15 e16 f16 e17 f17 e18 f18 e19 f19 e20 f20 e21 f21 e22 f22 e23 f23 e24 f24 e25 f25 e26 f26 e27 f27 e28 f28 e29 f29 e30 f30 e31 f31 e32 f32 e33 f33 e34 f34 e35 f35 e36 f36 e37 f37;simp only [List.foldl_cons, List.foldl_nil, List.setIfInBounds_toArray, List.set_cons_zero, List.set_cons_succ]
      go_wp2_with fail
      go_ret
      exact ⟨retB (by rw [HREC.out, HNO.out]; rfl), Below.step HBD.out hg⟩
    ·have hn' : (x.name.toList == y.name.toList) = false := by simpa using hn
     have e2 : (x.name.toList != y.name.toList) = true := by rw [bne, hn']; rfl
     have HNO : Hid (sameRo x y = false) := by show sameRo x y = false; unfold sameRo; rw [hn']; rfl
     clear hn;go_upto_region 6 with fail
     refine wp_region_factsG (by rfl) 55 (by rfl) (by kernel_rfl) (fun _ iz vz => (iz = 0 → vz = .slice (some ⟨xb, xo, none⟩) l.length ac) ∧ (iz = 1 → vz = .int .i64 (i : Int)) ∧ (iz = 2 → vz = .pointer (some ⟨xb, xo + i * 3, none⟩)) ∧ (iz = 3 → vz = .pointer (some ⟨xb, xo + i * 3, none⟩)) ∧ (iz = 4 → vz = .string x.name) ∧ (iz = 5 → vz = .slice (some ⟨yb, yo, none⟩) m.length bc) ∧ (iz = 6 → vz = .int .i64 (i : Int)) ∧ (iz = 7 → vz = .pointer (some ⟨yb, yo + i * 3, none⟩)) ∧ (iz = 8 → vz = .pointer (some ⟨yb, yo + i * 3, none⟩)) ∧ (iz = 9 → vz = .string y.name) ∧ (iz = 10 → vz = .bool true) ∧ (iz = 11 → vz = .bool true) ∧ (iz = 23 → vz = .bool true) ∧ (iz = 24 → vz = .bool true) ∧ (iz = 37 → vz = .bool true)) (fun w' => Below wr.drew.heap.size wr.drew w') (Below.refl _ _) ⟨?rbs0, ?rbs1, ?rbs2, ?rbs3, ?rbs4, ?rbs5, ?rbs6, ?rbs7, ?rbs8, ?rbs9, ?rbs10, ?rbs11, ?rbs12, ?rbs13, ?rbs14, ?rbs15, ?rbs16, ?rbs17, ?rbs18, ?rbs19, ?rbs20, ?rbs21, ?rbs22, ?rbs23, ?rbs24, ?rbs25, ?rbs26, ?rbs27, ?rbs28, ?rbs29, ?rbs30, ?rbs31, ?rbs32, ?rbs33, ?rbs34, ?rbs35, ?rbs36, ?rbs37, trivial⟩ ?rbfin
     case rbs0 =>
      intro a w' hoff hg hdep K hK;have h0 := off_at hoff 0 (v := .slice (some ⟨xb, xo, none⟩) l.length ac) (by kernel_rfl) rfl;rw [if_pos (by rfl)];go_simp;exact hK.out _ _ hg ⟨fun _ => rfl, nn,nn,nn,nn,nn,nn,nn,nn,nn,nn,nn,nn,nn,nn⟩ (fun _ _ h => h)
     case rbs1 =>
      intro a w' hoff hg hdep K hK;have h5 := off_at hoff 5 (v := .int .i64 (i : Int)) (by kernel_rfl) rfl;rw [if_pos (by rfl)];go_simp;exact hK.out _ _ hg ⟨nn, fun _ => rfl, nn,nn,nn,nn,nn,nn,nn,nn,nn,nn,nn,nn,nn⟩ (fun _ _ h => h)
     case rbs2 =>
      intro a w' hoff hg hdep K hK;obtain ⟨v0, e0, f0⟩ := hdep 0 _ 17 (by kernel_rfl) rfl rfl;obtain rfl := (f0.1 rfl).symm;obtain ⟨v1, e1, f1⟩ := hdep 1 _ 18 (by kernel_rfl) rfl rfl;obtain rfl := (f1.2.1 rfl).symm;rw [if_pos (by rfl)];go_simp;exact hK.out _ _ hg ⟨nn,nn, fun _ => rfl, nn,nn,nn,nn,nn,nn,nn,nn,nn,nn,nn,nn⟩ (fun _ _ h => h)
     case rbs3 =>
      intro a w' hoff hg hdep K hK;obtain ⟨v2, e2, f2⟩ := hdep 2 _ 19 (by kernel_rfl) rfl rfl;obtain rfl := (f2.2.2.1 rfl).symm;rw [if_pos (by rfl)];go_simp;exact hK.out _ _ hg ⟨nn,nn,nn, fun _ => rfl, nn,nn,nn,nn,nn,nn,nn,nn,nn,nn,nn⟩ (fun _ _ h => h)
     case rbs4 =>
      intro a w' hoff hg hdep K hK;obtain ⟨v3, e3, f3⟩ := hdep 3 _ 20 (by kernel_rfl) rfl rfl;obtain rfl := (f3.2.2.2.1 rfl).symm;rw [if_pos (by rfl)];have p0 := (hg.cell (p := ⟨xb, xo + i * 3, none⟩) (cell_lt p0)).trans p0; have p1 := (hg.cell (p := ⟨xb, xo + i * 3 + 1, none⟩) (cell_lt p1)).trans p1; have p2 := (hg.cell (p := ⟨xb, xo + i * 3 + 2, none⟩) (cell_lt p2)).trans p2; have q0 := (hg.cell (p := ⟨yb, yo + i * 3, none⟩) (cell_lt q0)).trans q0; have q1 := (hg.cell (p := ⟨yb, yo + i * 3 + 1, none⟩) (cell_lt q1)).trans q1; have q2 := (hg.cell (p := ⟨yb, yo + i * 3 + 2, none⟩) (cell_lt q2)).trans q2
      go_simp;exact hK.out _ _ hg ⟨nn,nn,nn,nn, fun _ => rfl, nn,nn,nn,nn,nn,nn,nn,nn,nn,nn⟩ (fun _ _ h => h)
     case rbs5 =>
      intro a w' hoff hg hdep K hK;have h1 := off_at hoff 1 (v := .slice (some ⟨yb, yo, none⟩) m.length bc) (by kernel_rfl) rfl;rw [if_pos (by rfl)];go_simp;exact hK.out _ _ hg ⟨nn,nn,nn,nn,nn, fun _ => rfl, nn,nn,nn,nn,nn,nn,nn,nn,nn⟩ (fun _ _ h => h)
     case rbs6 =>
      intro a w' hoff hg hdep K hK;have h5 := off_at hoff 5 (v := .int .i64 (i : Int)) (by kernel_rfl) rfl;rw [if_pos (by rfl)];go_simp;exact hK.out _ _ hg ⟨nn,nn,nn,nn,nn,nn, fun _ => rfl, nn,nn,nn,nn,nn,nn,nn,nn⟩ (fun _ _ h => h)
     case rbs7 =>
      intro a w' hoff hg hdep K hK;obtain ⟨v5, e5, f5⟩ := hdep 5 _ 22 (by kernel_rfl) rfl rfl;obtain rfl := (f5.2.2.2.2.2.1 rfl).symm;obtain ⟨v6, e6, f6⟩ := hdep 6 _ 23 (by kernel_rfl) rfl rfl;obtain rfl := (f6.2.2.2.2.2.2.1 rfl).symm;rw [if_pos (by rfl)];go_simp;exact hK.out _ _ hg ⟨nn,nn,nn,nn,nn,nn,nn, fun _ => rfl, nn,nn,nn,nn,nn,nn,nn⟩ (fun _ _ h => h)
     case rbs8 =>
      intro a w' hoff hg hdep K hK;obtain ⟨v7, e7, f7⟩ := hdep 7 _ 24 (by kernel_rfl) rfl rfl;obtain rfl := (f7.2.2.2.2.2.2.2.1 rfl).symm;rw [if_pos (by rfl)];go_simp;exact hK.out _ _ hg ⟨nn,nn,nn,nn,nn,nn,nn,nn, fun _ => rfl, nn,nn,nn,nn,nn,nn⟩ (fun _ _ h => h)
     case rbs9 =>
      intro a w' hoff hg hdep K hK;obtain ⟨v8, e8, f8⟩ := hdep 8 _ 25 (by kernel_rfl) rfl rfl;obtain rfl := (f8.2.2.2.2.2.2.2.2.1 rfl).symm;rw [if_pos (by rfl)];have p0 := (hg.cell (p := ⟨xb, xo + i * 3, none⟩) (cell_lt p0)).trans p0; have p1 := (hg.cell (p := ⟨xb, xo + i * 3 + 1, none⟩) (cell_lt p1)).trans p1; have p2 := (hg.cell (p := ⟨xb, xo + i * 3 + 2, none⟩) (cell_lt p2)).trans p2; have q0 := (hg.cell (p := ⟨yb, yo + i * 3, none⟩) (cell_lt q0)).trans q0; have q1 := (hg.cell (p := ⟨yb, yo + i * 3 + 1, none⟩) (cell_lt q1)).trans q1; have q2 := (hg.cell (p := ⟨yb, yo + i * 3 + 2, none⟩) (cell_lt q2)).trans q2
      go_simp;exact hK.out _ _ hg ⟨nn,nn,nn,nn,nn,nn,nn,nn,nn, fun _ => rfl, nn,nn,nn,nn,nn⟩ (fun _ _ h => h)
     case rbs10 =>
      intro a w' hoff hg hdep K hK;obtain ⟨v4, e4, f4⟩ := hdep 4 _ 21 (by kernel_rfl) rfl rfl;obtain rfl := (f4.2.2.2.2.1 rfl).symm;obtain ⟨v9, e9, f9⟩ := hdep 9 _ 26 (by kernel_rfl) rfl rfl;obtain rfl := (f9.2.2.2.2.2.2.2.2.2.1 rfl).symm;rw [if_pos (by rfl)];go_simp;exact hK.out _ _ hg ⟨nn,nn,nn,nn,nn,nn,nn,nn,nn,nn, fun _ => rfl, nn,nn,nn,nn⟩ (fun _ _ h => h)
     case rbs11 =>
      intro a w' hoff hg hdep K hK;obtain ⟨v10, e10, f10⟩ := hdep 10 _ 27 (by kernel_rfl) rfl rfl;obtain rfl := (f10.2.2.2.2.2.2.2.2.2.2.1 rfl).symm;rw [if_pos (by rfl)];go_simp;exact hK.out _ _ hg ⟨nn,nn,nn,nn,nn,nn,nn,nn,nn,nn,nn, fun _ => rfl, nn,nn,nn⟩ (fun _ _ h => h)
     case rbs12 =>
      intro a w' hoff hg hdep K hK;obtain ⟨v11, e11, f11⟩ := hdep 11 _ 28 (by kernel_rfl) rfl rfl;obtain rfl := (f11.2.2.2.2.2.2.2.2.2.2.2.1 rfl).symm;rw [if_neg (by simp [Region.wanted, yielded, e11])];exact hK.out _ _ hg ⟨nn,nn,nn,nn,nn,nn,nn,nn,nn,nn,nn,nn,nn,nn,nn⟩ (fun _ _ h => h)
     case rbs13 =>
      intro a w' hoff hg hdep K hK;obtain ⟨v11, e11, f11⟩ := hdep 11 _ 28 (by kernel_rfl) rfl rfl;obtain rfl := (f11.2.2.2.2.2.2.2.2.2.2.2.1 rfl).symm;rw [if_neg (by simp [Region.wanted, yielded, e11])];exact hK.out _ _ hg ⟨nn,nn,nn,nn,nn,nn,nn,nn,nn,nn,nn,nn,nn,nn,nn⟩ (fun _ _ h => h)
     case rbs14 =>
      intro a w' hoff hg hdep K hK;obtain ⟨v11, e11, f11⟩ := hdep 11 _ 28 (by kernel_rfl) rfl rfl;obtain rfl := (f11.2.2.2.2.2.2.2.2.2.2.2.1 rfl).symm;rw [if_neg (by simp [Region.wanted, yielded, e11])];exact hK.out _ _ hg ⟨nn,nn,nn,nn,nn,nn,nn,nn,nn,nn,nn,nn,nn,nn,nn⟩ (fun _ _ h => h)
     case rbs15 =>
      intro a w' hoff hg hdep K hK;obtain ⟨v11, e11, f11⟩ := hdep 11 _ 28 (by kernel_rfl) rfl rfl;obtain rfl := (f11.2.2.2.2.2.2.2.2.2.2.2.1 rfl).symm;rw [if_neg (by simp [Region.wanted, yielded, e11])];exact hK.out _ _ hg ⟨nn,nn,nn,nn,nn,nn,nn,nn,nn,nn,nn,nn,nn,nn,nn⟩ (fun _ _ h => h)
     case rbs16 =>
      intro a w' hoff hg hdep K hK;obtain ⟨v11, e11, f11⟩ := hdep 11 _ 28 (by kernel_rfl) rfl rfl;obtain rfl := (f11.2.2.2.2.2.2.2.2.2.2.2.1 rfl).symm;rw [if_neg (by simp [Region.wanted, yielded, e11])];exact hK.out _ _ hg ⟨nn,nn,nn,nn,nn,nn,nn,nn,nn,nn,nn,nn,nn,nn,nn⟩ (fun _ _ h => h)
     case rbs17 =>
      intro a w' hoff hg hdep K hK;obtain ⟨v11, e11, f11⟩ := hdep 11 _ 28 (by kernel_rfl) rfl rfl;obtain rfl := (f11.2.2.2.2.2.2.2.2.2.2.2.1 rfl).symm;rw [if_neg (by simp [Region.wanted, yielded, e11])];exact hK.out _ _ hg ⟨nn,nn,nn,nn,nn,nn,nn,nn,nn,nn,nn,nn,nn,nn,nn⟩ (fun _ _ h => h)
     case rbs18 =>
      intro a w' hoff hg hdep K hK;obtain ⟨v11, e11, f11⟩ := hdep 11 _ 28 (by kernel_rfl) rfl rfl;obtain rfl := (f11.2.2.2.2.2.2.2.2.2.2.2.1 rfl).symm;rw [if_neg (by simp [Region.wanted, yielded, e11])];exact hK.out _ _ hg ⟨nn,nn,nn,nn,nn,nn,nn,nn,nn,nn,nn,nn,nn,nn,nn⟩ (fun _ _ h => h)
     case rbs19 =>
      intro a w' hoff hg hdep K hK;obtain ⟨v11, e11, f11⟩ := hdep 11 _ 28 (by kernel_rfl) rfl rfl;obtain rfl := (f11.2.2.2.2.2.2.2.2.2.2.2.1 rfl).symm;rw [if_neg (by simp [Region.wanted, yielded, e11])];exact hK.out _ _ hg ⟨nn,nn,nn,nn,nn,nn,nn,nn,nn,nn,nn,nn,nn,nn,nn⟩ (fun _ _ h => h)
     case rbs20 =>
      intro a w' hoff hg hdep K hK;obtain ⟨v11, e11, f11⟩ := hdep 11 _ 28 (by kernel_rfl) rfl rfl;obtain rfl := (f11.2.2.2.2.2.2.2.2.2.2.2.1 rfl).symm;rw [if_neg (by simp [Region.wanted, yielded, e11])];exact hK.out _ _ hg ⟨nn,nn,nn,nn,nn,nn,nn,nn,nn,nn,nn,nn,nn,nn,nn⟩ (fun _ _ h => h)
     case rbs21 =>
      intro a w' hoff hg hdep K hK;obtain ⟨v11, e11, f11⟩ := hdep 11 _ 28 (by kernel_rfl) rfl rfl;obtain rfl := (f11.2.2.2.2.2.2.2.2.2.2.2.1 rfl).symm;rw [if_neg (by simp [Region.wanted, yielded, e11])];exact hK.out _ _ hg ⟨nn,nn,nn,nn,nn,nn,nn,nn,nn,nn,nn,nn,nn,nn,nn⟩ (fun _ _ h => h)
     case rbs22 =>
      intro a w' hoff hg hdep K hK;obtain ⟨v11, e11, f11⟩ := hdep 11 _ 28 (by kernel_rfl) rfl rfl;obtain rfl := (f11.2.2.2.2.2.2.2.2.2.2.2.1 rfl).symm;rw [if_neg (by simp [Region.wanted, yielded, e11])];exact hK.out _ _ hg ⟨nn,nn,nn,nn,nn,nn,nn,nn,nn,nn,nn,nn,nn,nn,nn⟩ (fun _ _ h => h)
     case rbs23 =>
      intro a w' hoff hg hdep K hK;obtain ⟨v11, e11, f11⟩ := hdep 11 _ 28 (by kernel_rfl) rfl rfl;obtain rfl := (f11.2.2.2.2.2.2.2.2.2.2.2.1 rfl).symm;obtain ⟨v22, e22, f22⟩ := hdep 22 _ 39 (by kernel_rfl) rfl rfl;rw [if_pos (by rfl)];go_simp;exact hK.out _ _ hg ⟨nn,nn,nn,nn,nn,nn,nn,nn,nn,nn,nn,nn, fun _ => rfl, nn,nn⟩ (fun _ _ h => h)
     case rbs24 =>
      intro a w' hoff hg hdep K hK;obtain ⟨v23, e23, f23⟩ := hdep 23 _ 40 (by kernel_rfl) rfl rfl;obtain rfl := (f23.2.2.2.2.2.2.2.2.2.2.2.2.1 rfl).symm;rw [if_pos (by rfl)];go_simp;exact hK.out _ _ hg ⟨nn,nn,nn,nn,nn,nn,nn,nn,nn,nn,nn,nn,nn, fun _ => rfl, nn⟩ (fun _ _ h => h)
     case rbs25 =>
      intro a w' hoff hg hdep K hK;obtain ⟨v24, e24, f24⟩ := hdep 24 _ 41 (by kernel_rfl) rfl rfl;obtain rfl := (f24.2.2.2.2.2.2.2.2.2.2.2.2.2.1 rfl).symm;rw [if_neg (by simp [Region.wanted, yielded, e24])];exact hK.out _ _ hg ⟨nn,nn,nn,nn,nn,nn,nn,nn,nn,nn,nn,nn,nn,nn,nn⟩ (fun _ _ h => h)
     case rbs26 =>
      intro a w' hoff hg hdep K hK;obtain ⟨v24, e24, f24⟩ := hdep 24 _ 41 (by kernel_rfl) rfl rfl;obtain rfl := (f24.2.2.2.2.2.2.2.2.2.2.2.2.2.1 rfl).symm;rw [if_neg (by simp [Region.wanted, yielded, e24])];exact hK.out _ _ hg ⟨nn,nn,nn,nn,nn,nn,nn,nn,nn,nn,nn,nn,nn,nn,nn⟩ (fun _ _ h => h)
     case rbs27 =>
      intro a w' hoff hg hdep K hK;obtain ⟨v24, e24, f24⟩ := hdep 24 _ 41 (by kernel_rfl) rfl rfl;obtain rfl := (f24.2.2.2.2.2.2.2.2.2.2.2.2.2.1 rfl).symm;rw [if_neg (by simp [Region.wanted, yielded, e24])];exact hK.out _ _ hg ⟨nn,nn,nn,nn,nn,nn,nn,nn,nn,nn,nn,nn,nn,nn,nn⟩ (fun _ _ h => h)
     case rbs28 =>
      intro a w' hoff hg hdep K hK;obtain ⟨v24, e24, f24⟩ := hdep 24 _ 41 (by kernel_rfl) rfl rfl;obtain rfl := (f24.2.2.2.2.2.2.2.2.2.2.2.2.2.1 rfl).symm;rw [if_neg (by simp [Region.wanted, yielded, e24])];exact hK.out _ _ hg ⟨nn,nn,nn,nn,nn,nn,nn,nn,nn,nn,nn,nn,nn,nn,nn⟩ (fun _ _ h => h)
     case rbs29 =>
      intro a w' hoff hg hdep K hK;obtain ⟨v24, e24, f24⟩ := hdep 24 _ 41 (by kernel_rfl) rfl rfl;obtain rfl := (f24.2.2.2.2.2.2.2.2.2.2.2.2.2.1 rfl).symm;rw [if_neg (by simp [Region.wanted, yielded, e24])];exact hK.out _ _ hg ⟨nn,nn,nn,nn,nn,nn,nn,nn,nn,nn,nn,nn,nn,nn,nn⟩ (fun _ _ h => h)
     case rbs30 =>
      intro a w' hoff hg hdep K hK;obtain ⟨v24, e24, f24⟩ := hdep 24 _ 41 (by kernel_rfl) rfl rfl;obtain rfl := (f24.2.2.2.2.2.2.2.2.2.2.2.2.2.1 rfl).symm;rw [if_neg (by simp [Region.wanted, yielded, e24])];exact hK.out _ _ hg ⟨nn,nn,nn,nn,nn,nn,nn,nn,nn,nn,nn,nn,nn,nn,nn⟩ (fun _ _ h => h)
     case rbs31 =>
      intro a w' hoff hg hdep K hK;obtain ⟨v24, e24, f24⟩ := hdep 24 _ 41 (by kernel_rfl) rfl rfl;obtain rfl := (f24.2.2.2.2.2.2.2.2.2.2.2.2.2.1 rfl).symm;rw [if_neg (by simp [Region.wanted, yielded, e24])];exact hK.out _ _ hg ⟨nn,nn,nn,nn,nn,nn,nn,nn,nn,nn,nn,nn,nn,nn,nn⟩ (fun _ _ h => h)
     case rbs32 =>
      intro a w' hoff hg hdep K hK;obtain ⟨v24, e24, f24⟩ := hdep 24 _ 41 (by kernel_rfl) rfl rfl;obtain rfl := (f24.2.2.2.2.2.2.2.2.2.2.2.2.2.1 rfl).symm;rw [if_neg (by simp [Region.wanted, yielded, e24])];exact hK.out _ _ hg ⟨nn,nn,nn,nn,nn,nn,nn,nn,nn,nn,nn,nn,nn,nn,nn⟩ (fun _ _ h => h)
     case rbs33 =>
      intro a w' hoff hg hdep K hK;obtain ⟨v24, e24, f24⟩ := hdep 24 _ 41 (by kernel_rfl) rfl rfl;obtain rfl := (f24.2.2.2.2.2.2.2.2.2.2.2.2.2.1 rfl).symm;rw [if_neg (by simp [Region.wanted, yielded, e24])];exact hK.out _ _ hg ⟨nn,nn,nn,nn,nn,nn,nn,nn,nn,nn,nn,nn,nn,nn,nn⟩ (fun _ _ h => h)
     case rbs34 =>
      intro a w' hoff hg hdep K hK;obtain ⟨v24, e24, f24⟩ := hdep 24 _ 41 (by kernel_rfl) rfl rfl;obtain rfl := (f24.2.2.2.2.2.2.2.2.2.2.2.2.2.1 rfl).symm;rw [if_neg (by simp [Region.wanted, yielded, e24])];exact hK.out _ _ hg ⟨nn,nn,nn,nn,nn,nn,nn,nn,nn,nn,nn,nn,nn,nn,nn⟩ (fun _ _ h => h)
     case rbs35 =>
      intro a w' hoff hg hdep K hK;obtain ⟨v24, e24, f24⟩ := hdep 24 _ 41 (by kernel_rfl) rfl rfl;obtain rfl := (f24.2.2.2.2.2.2.2.2.2.2.2.2.2.1 rfl).symm;rw [if_neg (by simp [Region.wanted, yielded, e24])];exact hK.out _ _ hg ⟨nn,nn,nn,nn,nn,nn,nn,nn,nn,nn,nn,nn,nn,nn,nn⟩ (fun _ _ h => h)
     case rbs36 =>
      intro a w' hoff hg hdep K hK;obtain ⟨v24, e24, f24⟩ := hdep 24 _ 41 (by kernel_rfl) rfl rfl;obtain rfl := (f24.2.2.2.2.2.2.2.2.2.2.2.2.2.1 rfl).symm;rw [if_neg (by simp [Region.wanted, yielded, e24])];exact hK.out _ _ hg ⟨nn,nn,nn,nn,nn,nn,nn,nn,nn,nn,nn,nn,nn,nn,nn⟩ (fun _ _ h => h)
     case rbs37 =>
      intro a w' hoff hg hdep K hK;obtain ⟨v24, e24, f24⟩ := hdep 24 _ 41 (by kernel_rfl) rfl rfl;obtain rfl := (f24.2.2.2.2.2.2.2.2.2.2.2.2.2.1 rfl).symm;obtain ⟨v36, e36, f36⟩ := hdep 36 _ 53 (by kernel_rfl) rfl rfl;rw [if_pos (by rfl)];go_simp;exact hK.out _ _ hg ⟨nn,nn,nn,nn,nn,nn,nn,nn,nn,nn,nn,nn,nn,nn, fun _ => rfl⟩ (fun _ _ h => h)
     intro a w9 hoff hg hf;obtain ⟨v0, e0, f0⟩ := hf 0 _ 17 rfl rfl;obtain rfl := (f0.1 rfl).symm;obtain ⟨v1, e1, f1⟩ := hf 1 _ 18 rfl rfl;obtain rfl := (f1.2.1 rfl).symm;obtain ⟨v2, e2, f2⟩ := hf 2 _ 19 rfl rfl;obtain rfl := (f2.2.2.1 rfl).symm;obtain ⟨v3, e3, f3⟩ := hf 3 _ 20 rfl rfl;obtain rfl := (f3.2.2.2.1 rfl).symm;obtain ⟨v4, e4, f4⟩ := hf 4 _ 21 rfl rfl;obtain rfl := (f4.2.2.2.2.1 rfl).symm;obtain ⟨v5, e5, f5⟩ := hf 5 _ 22 rfl rfl;obtain rfl := (f5.2.2.2.2.2.1 rfl).symm;obtain ⟨v6, e6, f6⟩ := hf 6 _ 23 rfl rfl;obtain rfl := (f6.2.2.2.2.2.2.1 rfl).symm;obtain ⟨v7, e7, f7⟩ := hf 7 _ 24 rfl rfl;obtain rfl := (f7.2.2.2.2.2.2.2.1 rfl).symm;obtain ⟨v8, e8, f8⟩ := hf 8 _ 25 rfl rfl;obtain rfl := (f8.2.2.2.2.2.2.2.2.1 rfl).symm;obtain ⟨v9, e9, f9⟩ := hf 9 _ 26 rfl rfl;obtain rfl := (f9.2.2.2.2.2.2.2.2.2.1 rfl).symm;obtain ⟨v10, e10, f10⟩ := hf 10 _ 27 rfl rfl;obtain rfl := (f10.2.2.2.2.2.2.2.2.2.2.1 rfl).symm;obtain ⟨v11, e11, f11⟩ := hf 11 _ 28 rfl rfl;obtain rfl := (f11.2.2.2.2.2.2.2.2.2.2.2.1 rfl).symm;obtain ⟨v12, e12, f12⟩ := hf 12 _ 29 rfl rfl;obtain ⟨v13, e13, f13⟩ := hf 13 _ 30 rfl rfl;obtain ⟨v14, e14, f14⟩ := hf 14 _ 31 rfl rfl;obtain ⟨v15, e15, f15⟩ := hf 15 _ 32 rfl rfl;obtain ⟨v16, e16, f16⟩ := hf 16 _ 33 rfl rfl;obtain ⟨v17, e17, f17⟩ := hf 17 _ 34 rfl rfl;obtain ⟨v18, e18, f18⟩ := hf 18 _ 35 rfl rfl;obtain ⟨v19, e19, f19⟩ := hf 19 _ 36 rfl rfl;obtain ⟨v20, e20, f20⟩ := hf 20 _ 37 rfl rfl;obtain ⟨v21, e21, f21⟩ := hf 21 _ 38 rfl rfl;obtain ⟨v22, e22, f22⟩ := hf 22 _ 39 rfl rfl;obtain ⟨v23, e23, f23⟩ := hf 23 _ 40 rfl rfl;obtain rfl := (f23.2.2.2.2.2.2.2.2.2.2.2.2.1 rfl).symm;obtain ⟨v24, e24, f24⟩ := hf 24 _ 41 rfl rfl;obtain rfl := (f24.2.2.2.2.2.2.2.2.2.2.2.2.2.1 rfl).symm;obtain ⟨v25, e25, f25⟩ := hf 25 _ 42 rfl rfl;obtain ⟨v26, e26, f26⟩ := hf 26 _ 43 rfl rfl;obtain ⟨v27, e27, f27⟩ := hf 27 _ 44 rfl rfl;obtain ⟨v28, e28, f28⟩ := hf 28 _ 45 rfl rfl;obtain ⟨v29, e29, f29⟩ := hf 29 _ 46 rfl rfl;obtain ⟨v30, e30, f30⟩ := hf 30 _ 47 rfl rfl;obtain ⟨v31, e31, f31⟩ := hf 31 _ 48 rfl rfl;obtain ⟨v32, e32, f32⟩ := hf 32 _ 49 rfl rfl;obtain ⟨v33, e33, f33⟩ := hf 33 _ 50 rfl rfl;obtain ⟨v34, e34, f34⟩ := hf 34 _ 51 rfl rfl;obtain ⟨v35, e35, f35⟩ := hf 35 _ 52 rfl rfl;obtain ⟨v36, e36, f36⟩ := hf 36 _ 53 rfl rfl;obtain ⟨v37, e37, f37⟩ := hf 37 _ 54 rfl rfl;obtain rfl := (f37.2.2.2.2.2.2.2.2.2.2.2.2.2.2 rfl).symm
     rw [hoff.sets [(17, .slice (some ⟨xb, xo, none⟩) l.length ac), (18, .int .i64 (i : Int)), (19, .pointer (some ⟨xb, xo + i * 3, none⟩)), (20, .pointer (some ⟨xb, xo + i * 3, none⟩)), (21, .string x.name), (22, .slice (some ⟨yb, yo, none⟩) m.length bc), (23, .int .i64 (i : Int)), (24, .pointer (some ⟨yb, yo + i * 3, none⟩)), (25, .pointer (some ⟨yb, yo + i * 3, none⟩)), (26, .string y.name), (27, .bool true), (28, .bool true), (29, v12), (30, v13), (31, v14), (32, v15), (33, v16), (34, v17), (35, v18), (36, v19), (37, v20), (38, v21), (39, v22), (40, .bool true), (41, .bool true), (42, v25), (43, v26), (44, v27), (45, v28), (46, v29), (47, v30), (48, v31), (49, v32), (50, v33), (51, v34), (52, v35), (53, v36), (54, .bool true)] (by kernel_rfl) (by intro p hp; simp only [List.mem_cons, List.not_mem_nil, or_false] at hp; rcases hp with rfl | rfl | rfl | rfl | rfl | rfl | rfl | rfl | rfl | rfl | rfl | rfl | rfl | rfl | rfl | rfl | rfl | rfl | rfl | rfl | rfl | rfl | rfl | rfl | rfl | rfl | rfl | rfl | rfl | rfl | rfl | rfl | rfl | rfl | rfl | rfl | rfl | rfl <;> assumption)];clear hoff hf e0 f0 e1 f1 e2 f2 e3 f3 e4 f4 e5 f5 e6 f6 e7 f7 e8 f8 e9 f9 e10 f10 e11 f11 e12 f12 e13 f13 e14 f14 e15 f15 e16 f16 e17 f17 e18 f18 e19 f19 e20 f20 e21 f21 e22 f22 e23 f23 e24 f24 e25 f25 e26 f26 e27 f27 e28 f28 e29 f29 e30 f30 e31 f31 e32 f32 e33 f33 e34 f34 e35 f35 e36 f36 e37 f37;simp only [List.foldl_cons, List.foldl_nil, List.setIfInBounds_toArray, List.set_cons_zero, List.set_cons_succ]
     go_wp2_with fail
     go_ret
     exact ⟨retB (by rw [HREC.out, HNO.out]; rfl), Below.step HBD.out hg⟩
   ·have hie : i = l.length := by omega
    have HE : Hid (sameRos l m = true) := by
     show sameRos l m = true
     rw [hrec.out, List.drop_of_length_le (by omega), List.drop_of_length_le (by have := HLM.out; omega)]; rfl
    have k1 : decide ((i : Int) < (l.length : Int)) = false := decide_eq_false (by omega);have k2 : decide (i < l.length) = false := decide_eq_false hlt;clear hie hlt hi hrec;go_wp2_with fail
    go_ret
    exact ⟨retB HE.out.symm, hbw.out⟩
 ·have k0 : ((l.length : Int) != (m.length : Int)) = true := by simp; omega
  have k1 : (l.length != m.length) = true := by simp [hlm]
  have HE : Hid (sameRos l m = false) := sameRos_len hlm;clear hlm;go_enter Try.func22, Try.ntmps22
  go_wp2_with fail
  go_ret
  exact ⟨retB HE.out.symm, Below.refl _ _⟩
end Go.Proofs.Ytpnaegohjbaggaa
