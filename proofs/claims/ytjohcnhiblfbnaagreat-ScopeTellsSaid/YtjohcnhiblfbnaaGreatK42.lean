/-
  FitAll
-/
import Derived.Test.YtjohcnhiblfbnaaGreatK01
import Derived.Test.YtjohcnhiblfbnaaGreatK41
import Derived.Deep.CutRange
import Derived.Deep.Cut
namespace Go.Proofs.YtjohcnhiblfbnaaGreat
open Go.RowKit
theorem MineK.put {α : Type} {K : Kd α} {w : World} {base g : Nat} {l : List α} {v : Value} (h : MineK K w base l v) (hg : g < base) (o : Nat) (c0 c1 c2 c3 c4 c5 c6 : Value) : MineK K (put7 w g o c0 c1 c2 c3 c4 c5 c6) base l v :=
 h.kept (by rw [put7_size]; exact Nat.le_refl _) (fun k hk _ => put7_other _ _ _ _ _ _ _ _ _ _ k (by omega))
set_option maxRecDepth 100000 in
set_option maxHeartbeats 16000000 in
theorem fitPr_any (p : Pr) (S : Nat → Prop) (w : World) (c0 c1 c2 : Value) (hS : ∀ k, S k → k < w.heap.size) (hx : RepPr S w p c0 c1 c2) :
  Calls Tryz.prog 11 #[.agg #[c0, c1, c2]] w fun e w' => ∃ v0 v1 v2, e = .returned (.agg #[v0, v1, v2]) ∧ RepPr (fun b => w.heap.size ≤ b ∧ b < w'.heap.size) w' (fitPr p) v0 v1 v2 ∧ Below w.heap.size w w' := by
 have HS := Lib.hid hS;have HD := Lib.hid hx.1; have HF := Lib.hid hx.2.1; have HR := Lib.hid hx.2.2
 have HE : Hid (fitPr p = ⟨(p.decls.take 64).map fitDe, (p.facts.take 64).map fitFa, (p.rules.take 64).map fitRu⟩) := by show _ = _; rfl
 have hln1 : p.decls.length ≤ 140737488355328 := by have := SlG.bytes hx.1; omega
 have hln2 : p.facts.length ≤ 140737488355328 := by have := SlG.bytes hx.2.1; omega
 have hln3 : p.rules.length ≤ 140737488355328 := by have := SlG.bytes hx.2.2; omega
 have HLN := Lib.hid (And.intro hln1 (And.intro hln2 hln3));obtain ⟨fa, fc, rfl⟩ := SlG.form hx.1;obtain ⟨ga, gc, rfl⟩ := SlG.form hx.2.1;obtain ⟨ha, hc, rfl⟩ := SlG.form hx.2.2;clear hx hS hln1 hln2 hln3;go_enter Tryz.func11, Tryz.ntmps11
 go_wp2_with fail
 have x0 := boxPr_new w (.slice fa p.decls.length fc) (.slice ga p.facts.length gc) (.slice ha p.rules.length hc);have b0 := below_alloc w (.cells #[.slice fa p.decls.length fc, .slice ga p.facts.length gc, .slice ha p.rules.length hc] 26);have s0 := World.size_alloc w (.cells #[.slice fa p.decls.length fc, .slice ga p.facts.length gc, .slice ha p.rules.length hc] 26);generalize w.alloc (.cells #[.slice fa p.decls.length fc, .slice ga p.facts.length gc, .slice ha p.rules.length hc] 26) = w0 at *;have x1 := boxPr_new w0 (.slice none 0 0) (.slice none 0 0) (.slice none 0 0);have b1 := below_alloc w0 (.cells #[.slice none 0 0, .slice none 0 0, .slice none 0 0] 26);have s1 := World.size_alloc w0 (.cells #[.slice none 0 0, .slice none 0 0, .slice none 0 0] 26);generalize w0.alloc (.cells #[.slice none 0 0, .slice none 0 0, .slice none 0 0] 26) = w1 at *;have x2 := boxPr_new w1 (.slice none 0 0) (.slice none 0 0) (.slice none 0 0);have b2 := below_alloc w1 (.cells #[.slice none 0 0, .slice none 0 0, .slice none 0 0] 26);have s2 := World.size_alloc w1 (.cells #[.slice none 0 0, .slice none 0 0, .slice none 0 0] 26);generalize w1.alloc (.cells #[.slice none 0 0, .slice none 0 0, .slice none 0 0] 26) = w2 at *;rw [s0] at x1 s1;rw [s1] at x2 s2;have X2 := Lib.hid ((x0.on b1).on b2); have R2 := Lib.hid (x1.on b2); have O2 := Lib.hid x2
 have B2 := Lib.hid (Below.step (Below.step b0 b1) b2);have HSZ2 : Hid (w2.heap.size = w.heap.size + 3) := by show _ = _; omega
 clear x0 x1 x2 b0 b1 b2 s0 s1 s2;go_loopw [4] (fun iv wr => ∃ (k : Nat) (lv : Value), k ≤ 64 ∧ k ≤ p.decls.length ∧ iv = .int .i64 k ∧ MineK kdDe wr w2.heap.size ((p.decls.take k).map fitDe) lv ∧ BoxPr wr (w.heap.size + 2) lv (.slice none 0 0) (.slice none 0 0) ∧ But (w.heap.size + 2) w2.heap.size w2 wr) (fun iv _ => 64 - (intOf iv).toNat)
 case atStart => exact ⟨0, .slice none 0 0, by omega, Nat.zero_le _, rfl, MineK.nil _ _, O2.out, But.refl _ _ _⟩
 case round =>
  obtain ⟨k, lv, hk64, hkl, rfl, hmine, hbox, hbut⟩ := hrel;have HO := Lib.hid hmine; have OR := Lib.hid hbox; have HBUT := Lib.hid hbut
  have XR : Hid (BoxPr wr w.heap.size (.slice fa p.decls.length fc) (.slice ga p.facts.length gc) (.slice ha p.rules.length hc)) := (hbut.block _ (by have := HSZ2.out; omega) (by omega)).trans X2.out;have HWS : Hid (w2.heap.size ≤ wr.heap.size) := hbut.size;have hBW : Below w.heap.size w wr := Below.trans B2.out (hbut.below (by have := HSZ2.out; omega) (by omega));have HBW := Lib.hid hBW;have HKB := Lib.hid (And.intro hk64 hkl);have hlen := HLN.out.1;clear hmine hbox hbut hBW;obtain ⟨p0, p1, p2⟩ := XR.out.cells;go_upto_region 3 with fail
  go_cut [20] from 12 to 20 (fun s wx => s = .bool (decide (k < 64 ∧ k < p.decls.length)) ∧ wr = wx)
  case first =>
   by_cases c1 : k < p.decls.length
   ·have i1 : decide ((k : Int) < (p.decls.length : Int)) = true := decide_eq_true (by omega)
    by_cases c2 : k < 64
    ·have i2 : decide ((k : Int) < 64) = true := decide_eq_true (by omega)
     have HZ : Hid (decide (k < 64 ∧ k < p.decls.length) = true) := decide_eq_true ⟨c2, c1⟩;clear hk64 hkl;go_wp2_with fail
     go_meet
     exact ⟨by rw [HZ.out], rfl⟩
    ·have i2 : decide ((k : Int) < 64) = false := decide_eq_false (by omega)
     have HZ : Hid (decide (k < 64 ∧ k < p.decls.length) = false) := decide_eq_false (by omega);clear hk64 hkl;go_wp2_with fail
     go_meet
     exact ⟨by rw [HZ.out], rfl⟩
   ·have i1 : decide ((k : Int) < (p.decls.length : Int)) = false := decide_eq_false (by omega)
    have HZ : Hid (decide (k < 64 ∧ k < p.decls.length) = false) := decide_eq_false (by omega);clear hk64 hkl;go_wp2_with fail
    go_meet
    exact ⟨by rw [HZ.out], rfl⟩
  case rest =>
   obtain ⟨rfl, rfl⟩ := hcut;clear hlen hk64 hkl p0 p1 p2
   by_cases hlt : k < 64 ∧ k < p.decls.length
   ·rw [decide_eq_true hlt]
    obtain ⟨hlt1, hlt2⟩ := hlt;have hA := (RepDes.on (fun _ h => h) (fun j hj => HBW.out.block j (HS.out j hj)) HD.out : RepDes S wr p.decls (.slice fa p.decls.length fc));obtain ⟨-, hcap2, lb, lo, hga2, hSb, g0, g1, g⟩ := RepDes.at hA k hlt2;have HGA2 := Lib.hid hga2;have HLB : Hid (lb < wr.heap.size) := Nat.lt_of_lt_of_le (HS.out lb hSb) HBW.out.size;have Q0 := Lib.hid g0; have Q1 := Lib.hid g1
    have HK1 : Hid ((0 : Int) ≤ (k : Int)) := Int.natCast_nonneg k;have HK2 : Hid ((k : Int) < (p.decls.length : Int)) := by show _ < _; omega
    have HKL : Hid (k < 64 ∧ k < p.decls.length) := ⟨hlt1, hlt2⟩;have HLL := Lib.hid (take_map_len fitDe p.decls (Nat.le_of_lt hlt2));have HLK : Hid (((p.decls.take k).map fitDe).length ≤ 1000) := by show _ ≤ _; rw [HLL.out]; omega
    have HTK := Lib.hid (take_map_succ fitDe p.decls hlt2);have HDB : Hid (p.decls[k].name.size ≤ maxLen ∧ I64 p.decls[k].arity) := ⟨g.2.2.1, g.2.2.2⟩;clear hA g hga2 hSb g0 g1;generalize p.decls[k] = d at *;clear hlt1 hlt2;have hpb := pickZ_bd d.arity 8 (by omega);have HW1 : Hid (wrap64 (1 + pickZ d.arity 8) = 1 + pickZ d.arity 8) := by show _ = _; unfold wrap64; omega
    have HW2 : Hid (IntKind.i64.wrap (1 + pickZ d.arity 8) = 1 + pickZ d.arity 8) := by show _ = _; rw [IntKind.wrap_i64]; omega
    have HRD : Hid (∀ S' w', RepDe S' w' (fitDe d) (.string (relOf d.name)) (.int .i64 (1 + pickZ d.arity 8))) := Lib.hid (fun _ _ => ⟨rfl, rfl, Nat.le_trans (relOf_size _) (by decide), small64 (n := (fitDe d).arity) (by show 0 ≤ 1 + pickZ d.arity 8 ∧ 1 + pickZ d.arity 8 ≤ 100; omega)⟩);clear hpb hcap2;go_wp2_with fail
    refine wp_region_factsP (by rfl) 202 (by rfl) (by kernel_rfl) 19 (fun q => q == 0 || q == 1 || q == 2 || q == 3 || q == 4 || q == 5 || q == 6 || q == 7 || q == 8 || q == 9 || q == 10 || q == 11 || q == 12 || q == 13 || q == 14 || q == 15 || q == 16 || q == 17 || q == 18) (by kernel_rfl) (FB [.e (.pointer (some ⟨w.heap.size + 2, 0, none⟩)), .e lv, .e (.pointer (some ⟨w.heap.size, 0, none⟩)), .e (.slice (some ⟨lb, lo, none⟩) p.decls.length fc), .e (.int .i64 (k : Int)), .e (.pointer (some ⟨lb, lo + k * 2, none⟩)), .e (.pointer (some ⟨lb, lo + k * 2, none⟩)), .e (.string d.name), .e (.string (relOf d.name)), .e (.pointer (some ⟨w.heap.size, 0, none⟩)), .e (.slice (some ⟨lb, lo, none⟩) p.decls.length fc), .e (.int .i64 (k : Int)), .e (.pointer (some ⟨lb, lo + k * 2, none⟩)), .e (.pointer (some ⟨lb, lo + k * 2 + 1, none⟩)), .e (.int .i64 d.arity), .e (.int .i64 (pickZ d.arity 8)), .e (.int .i64 (1 + pickZ d.arity 8)), .e (.agg #[.string (relOf d.name), .int .i64 (1 + pickZ d.arity 8)]), .p (RowOf wr.heap.size (.cells #[.string (relOf d.name), .int .i64 (1 + pickZ d.arity 8)] 77 (0, 0))), .t (fun wz vz => ∃ a cap, vz = .slice a (k + 1) cap ∧ MineK kdDe wz w2.heap.size (((p.decls.take k).map fitDe) ++ [fitDe d]) vz), .e (.pointer (some ⟨w.heap.size + 2, 0, none⟩))]) (fun ph w' => if ph = true then Aft wr w2.heap.size lv w' else Below wr.heap.size wr w') (Below.drew (Below.refl _ _)) ⟨?s0, ?s1, ?s2, ?s3, ?s4, ?s5, ?s6, ?s7, ?s8, ?s9, ?s10, ?s11, ?s12, ?s13, ?s14, ?s15, ?s16, ?s17, ?s18, ?s19, ?s20, trivial⟩ (by rfl) ?last
    case s0 =>
     intro a w' hoff hg hdep K hK;replace hg : Below wr.heap.size wr w' := hg;have h3 := off_at hoff 3 (v := .pointer (some ⟨w.heap.size + 2, 0, none⟩)) (by kernel_rfl) rfl;rw [if_pos (by rfl)];go_simp;exact hK.out _ _ hg rfl (fun _ _ h => h)
    case s1 =>
     intro a w' hoff hg hdep K hK;replace hg : Below wr.heap.size wr w' := hg;obtain ⟨_, e0, rfl⟩ := hdep 0 _ 23 (by kernel_rfl) rfl rfl;rw [if_pos (by rfl)];obtain ⟨p0, p1, p2⟩ := (XR.out.on hg).cells; rw [HGA2.out] at p0; obtain ⟨o0, o1, o2⟩ := (OR.out.on hg).cells; have q0 := (hg.cell (p := ⟨lb, lo + k * 2, none⟩) HLB.out).trans Q0.out; have q1 := (hg.cell (p := ⟨lb, lo + k * 2 + 1, none⟩) HLB.out).trans Q1.out
     go_simp;exact hK.out _ _ hg rfl (fun _ _ h => h)
    case s2 =>
     intro a w' hoff hg hdep K hK;replace hg : Below wr.heap.size wr w' := hg;have h1 := off_at hoff 1 (v := .pointer (some ⟨w.heap.size, 0, none⟩)) (by kernel_rfl) rfl;rw [if_pos (by rfl)];go_simp;exact hK.out _ _ hg rfl (fun _ _ h => h)
    case s3 =>
     intro a w' hoff hg hdep K hK;replace hg : Below wr.heap.size wr w' := hg;obtain ⟨_, e2, rfl⟩ := hdep 2 _ 25 (by kernel_rfl) rfl rfl;rw [if_pos (by rfl)];obtain ⟨p0, p1, p2⟩ := (XR.out.on hg).cells; rw [HGA2.out] at p0; obtain ⟨o0, o1, o2⟩ := (OR.out.on hg).cells; have q0 := (hg.cell (p := ⟨lb, lo + k * 2, none⟩) HLB.out).trans Q0.out; have q1 := (hg.cell (p := ⟨lb, lo + k * 2 + 1, none⟩) HLB.out).trans Q1.out
     go_simp;exact hK.out _ _ hg rfl (fun _ _ h => h)
    case s4 =>
     intro a w' hoff hg hdep K hK;replace hg : Below wr.heap.size wr w' := hg;have h4 := off_at hoff 4 (v := .int .i64 (k : Int)) (by kernel_rfl) rfl;rw [if_pos (by rfl)];go_simp;exact hK.out _ _ hg rfl (fun _ _ h => h)
    case s5 =>
     intro a w' hoff hg hdep K hK;replace hg : Below wr.heap.size wr w' := hg;obtain ⟨_, e3, rfl⟩ := hdep 3 _ 26 (by kernel_rfl) rfl rfl;obtain ⟨_, e4, rfl⟩ := hdep 4 _ 27 (by kernel_rfl) rfl rfl;rw [if_pos (by rfl)];have hk1 := HK1.out; have hk2 := HK2.out
     go_simp;exact hK.out _ _ hg rfl (fun _ _ h => h)
    case s6 =>
     intro a w' hoff hg hdep K hK;replace hg : Below wr.heap.size wr w' := hg;obtain ⟨_, e5, rfl⟩ := hdep 5 _ 28 (by kernel_rfl) rfl rfl;rw [if_pos (by rfl)];go_simp;exact hK.out _ _ hg rfl (fun _ _ h => h)
    case s7 =>
     intro a w' hoff hg hdep K hK;replace hg : Below wr.heap.size wr w' := hg;obtain ⟨_, e6, rfl⟩ := hdep 6 _ 29 (by kernel_rfl) rfl rfl;rw [if_pos (by rfl)];obtain ⟨p0, p1, p2⟩ := (XR.out.on hg).cells; rw [HGA2.out] at p0; obtain ⟨o0, o1, o2⟩ := (OR.out.on hg).cells; have q0 := (hg.cell (p := ⟨lb, lo + k * 2, none⟩) HLB.out).trans Q0.out; have q1 := (hg.cell (p := ⟨lb, lo + k * 2 + 1, none⟩) HLB.out).trans Q1.out
     go_simp;exact hK.out _ _ hg rfl (fun _ _ h => h)
    case s8 =>
     intro a w' hoff hg hdep K hK;replace hg : Below wr.heap.size wr w' := hg;obtain ⟨_, e7, rfl⟩ := hdep 7 _ 30 (by kernel_rfl) rfl rfl;rw [if_pos (by rfl)];go_simp;refine (Relation_any d.name _ HDB.out.1).mono ?_;rintro e w2' ⟨rfl, hb⟩;exact hK.out _ _ (Below.step hg hb) rfl (fStP ⟨fun _ h => RowOf.stay hb h, trivial⟩)
    case s9 =>
     intro a w' hoff hg hdep K hK;replace hg : Below wr.heap.size wr w' := hg;have h1 := off_at hoff 1 (v := .pointer (some ⟨w.heap.size, 0, none⟩)) (by kernel_rfl) rfl;rw [if_pos (by rfl)];go_simp;exact hK.out _ _ hg rfl (fun _ _ h => h)
    case s10 =>
     intro a w' hoff hg hdep K hK;replace hg : Below wr.heap.size wr w' := hg;obtain ⟨_, e9, rfl⟩ := hdep 9 _ 32 (by kernel_rfl) rfl rfl;rw [if_pos (by rfl)];obtain ⟨p0, p1, p2⟩ := (XR.out.on hg).cells; rw [HGA2.out] at p0; obtain ⟨o0, o1, o2⟩ := (OR.out.on hg).cells; have q0 := (hg.cell (p := ⟨lb, lo + k * 2, none⟩) HLB.out).trans Q0.out; have q1 := (hg.cell (p := ⟨lb, lo + k * 2 + 1, none⟩) HLB.out).trans Q1.out
     go_simp;exact hK.out _ _ hg rfl (fun _ _ h => h)
    case s11 =>
     intro a w' hoff hg hdep K hK;replace hg : Below wr.heap.size wr w' := hg;have h4 := off_at hoff 4 (v := .int .i64 (k : Int)) (by kernel_rfl) rfl;rw [if_pos (by rfl)];go_simp;exact hK.out _ _ hg rfl (fun _ _ h => h)
    case s12 =>
     intro a w' hoff hg hdep K hK;replace hg : Below wr.heap.size wr w' := hg;obtain ⟨_, e10, rfl⟩ := hdep 10 _ 33 (by kernel_rfl) rfl rfl;obtain ⟨_, e11, rfl⟩ := hdep 11 _ 34 (by kernel_rfl) rfl rfl;rw [if_pos (by rfl)];have hk1 := HK1.out; have hk2 := HK2.out
     go_simp;exact hK.out _ _ hg rfl (fun _ _ h => h)
    case s13 =>
     intro a w' hoff hg hdep K hK;replace hg : Below wr.heap.size wr w' := hg;obtain ⟨_, e12, rfl⟩ := hdep 12 _ 35 (by kernel_rfl) rfl rfl;rw [if_pos (by rfl)];go_simp;exact hK.out _ _ hg rfl (fun _ _ h => h)
    case s14 =>
     intro a w' hoff hg hdep K hK;replace hg : Below wr.heap.size wr w' := hg;obtain ⟨_, e13, rfl⟩ := hdep 13 _ 36 (by kernel_rfl) rfl rfl;rw [if_pos (by rfl)];obtain ⟨p0, p1, p2⟩ := (XR.out.on hg).cells; rw [HGA2.out] at p0; obtain ⟨o0, o1, o2⟩ := (OR.out.on hg).cells; have q0 := (hg.cell (p := ⟨lb, lo + k * 2, none⟩) HLB.out).trans Q0.out; have q1 := (hg.cell (p := ⟨lb, lo + k * 2 + 1, none⟩) HLB.out).trans Q1.out
     go_simp;exact hK.out _ _ hg rfl (fun _ _ h => h)
    case s15 =>
     intro a w' hoff hg hdep K hK;replace hg : Below wr.heap.size wr w' := hg;obtain ⟨_, e14, rfl⟩ := hdep 14 _ 37 (by kernel_rfl) rfl rfl;rw [if_pos (by rfl)];go_simp;refine (pick4_any d.arity 8 _ HDB.out.2 (by omega) (by omega)).mono ?_;rintro e w2' ⟨rfl, rfl⟩;have hb := Below.refl w'.heap.size w';exact hK.out _ _ (Below.step hg hb) rfl (fStP ⟨fun _ h => RowOf.stay hb h, trivial⟩)
    case s16 =>
     intro a w' hoff hg hdep K hK;replace hg : Below wr.heap.size wr w' := hg;obtain ⟨_, e15, rfl⟩ := hdep 15 _ 38 (by kernel_rfl) rfl rfl;rw [if_pos (by rfl)];have hw1 := HW1.out; have hw2 := HW2.out
     go_simp;exact hK.out _ _ hg rfl (fun _ _ h => h)
    case s17 =>
     intro a w' hoff hg hdep K hK;replace hg : Below wr.heap.size wr w' := hg;obtain ⟨_, e8, rfl⟩ := hdep 8 _ 31 (by kernel_rfl) rfl rfl;obtain ⟨_, e16, rfl⟩ := hdep 16 _ 39 (by kernel_rfl) rfl rfl;rw [if_pos (by rfl)];go_simp;exact hK.out _ _ hg rfl (fun _ _ h => h)
    case s18 =>
     intro a w' hoff hg hdep K hK;replace hg : Below wr.heap.size wr w' := hg;obtain ⟨_, e17, rfl⟩ := hdep 17 _ 40 (by kernel_rfl) rfl rfl;rw [if_pos (by rfl)];go_simp;have hb := below_alloc w' (.cells #[.string (relOf d.name), .int .i64 (1 + pickZ d.arity 8)] 77);have hp := RowOf.new (cs := #[.string (relOf d.name), .int .i64 (1 + pickZ d.arity 8)]) (t := 77) hg.size;exact hK.out _ _ (Below.step hg hb) (fun _ => hp) (fStP ⟨fun _ h => RowOf.stay hb h, trivial⟩)
    case s19 =>
     intro a w' hoff hg hdep K hK;replace hg : Below wr.heap.size wr w' := hg;obtain ⟨v1, e1, f1⟩ := hdep 1 _ 24 (by kernel_rfl) rfl rfl;obtain rfl : lv = v1 := Eq.symm f1;obtain ⟨v18, e18, f18⟩ := hdep 18 _ 41 (by kernel_rfl) rfl rfl;have g18 : RowOf wr.heap.size (.cells #[.string (relOf d.name), .int .i64 (1 + pickZ d.arity 8)] 77 (0, 0)) w' v18 := f18 rfl;obtain ⟨b, rfl, hbk, hbb⟩ := g18;obtain ⟨va, vcap, w6, hrun, hm6, hgr⟩ := own_append (K := kdDe) (y := fitDe d) (c := at2v (.string (relOf d.name)) (.int .i64 (1 + pickZ d.arity 8))) (HO.out.stands hg) (Nat.le_trans HWS.out hg.size) HLK.out hbk rfl (fun j hj => match j, hj with | 0, _ => rfl | 1, _ => rfl) (HRD.out (fun _ => True) w) 22;refine step_append_by rfl (.tmp 24) (.tmp 41) 22 rfl (by simp [Act.eval, e1]) (by simp [Act.eval, e18]) hrun ?_;have hlk := HLL.out;rw [hlk] at hm6 ⊢;have hp : ∃ a cap, (.slice va (k + 1) vcap : Value) = .slice a (k + 1) cap ∧ MineK kdDe w6 w2.heap.size (((p.decls.take k).map fitDe) ++ [fitDe d]) (.slice va (k + 1) vcap) := ⟨_, _, rfl, hm6⟩;have hG2 := Aft.of HO.out HWS.out hg hgr;exact hK.out _ _ hG2 (fun _ => hp) (fPass rfl)
    case s20 =>
     intro ph a w' hoff hg hdep K hK;have h3 := off_at hoff 3 (v := .pointer (some ⟨w.heap.size + 2, 0, none⟩)) (by kernel_rfl) rfl;rw [if_pos (by rfl)];go_simp;exact hK.out _ _ hg rfl (fun _ _ h => h)
    case last =>
     intro a w' hoff hg hf;replace hg : Aft wr w2.heap.size lv w' := hg;obtain ⟨_, e0, rfl⟩ := hf 0 _ 23 (by decide) rfl rfl;obtain ⟨v1, e1, f1⟩ := hf 1 _ 24 (by decide) rfl rfl;obtain rfl : lv = v1 := Eq.symm f1;obtain ⟨_, e2, rfl⟩ := hf 2 _ 25 (by decide) rfl rfl;obtain ⟨_, e3, rfl⟩ := hf 3 _ 26 (by decide) rfl rfl;obtain ⟨_, e4, rfl⟩ := hf 4 _ 27 (by decide) rfl rfl;obtain ⟨_, e5, rfl⟩ := hf 5 _ 28 (by decide) rfl rfl;obtain ⟨_, e6, rfl⟩ := hf 6 _ 29 (by decide) rfl rfl;obtain ⟨_, e7, rfl⟩ := hf 7 _ 30 (by decide) rfl rfl;obtain ⟨_, e8, rfl⟩ := hf 8 _ 31 (by decide) rfl rfl;obtain ⟨_, e9, rfl⟩ := hf 9 _ 32 (by decide) rfl rfl;obtain ⟨_, e10, rfl⟩ := hf 10 _ 33 (by decide) rfl rfl;obtain ⟨_, e11, rfl⟩ := hf 11 _ 34 (by decide) rfl rfl;obtain ⟨_, e12, rfl⟩ := hf 12 _ 35 (by decide) rfl rfl;obtain ⟨_, e13, rfl⟩ := hf 13 _ 36 (by decide) rfl rfl;obtain ⟨_, e14, rfl⟩ := hf 14 _ 37 (by decide) rfl rfl;obtain ⟨_, e15, rfl⟩ := hf 15 _ 38 (by decide) rfl rfl;obtain ⟨_, e16, rfl⟩ := hf 16 _ 39 (by decide) rfl rfl;obtain ⟨_, e17, rfl⟩ := hf 17 _ 40 (by decide) rfl rfl;obtain ⟨v18, e18, f18⟩ := hf 18 _ 41 (by decide) rfl rfl;obtain ⟨v19, e19, f19⟩ := hf 19 _ 42 (by decide) rfl rfl;have g19 : ∃ a cap, v19 = .slice a (k + 1) cap ∧ MineK kdDe w' w2.heap.size (((p.decls.take k).map fitDe) ++ [fitDe d]) v19 := f19 rfl;obtain ⟨_, e20, rfl⟩ := hf 20 _ 43 (by decide) rfl rfl;obtain ⟨va, vcap, rfl, hm6⟩ := g19;have OR6 : Hid (BoxPr w' (w.heap.size + 2) lv (.slice none 0 0) (.slice none 0 0)) := (hg.below.block _ (by have := HSZ2.out; omega)).trans OR.out;obtain ⟨o0, o1, o2⟩ := OR6.out.cells;have z0 := frozen_of_row w' (w.heap.size + 2) 0 _ _ OR6.out;rw [if_pos (by rfl)];rw [hoff.sets [(23, .pointer (some ⟨w.heap.size + 2, 0, none⟩)), (24, lv), (25, .pointer (some ⟨w.heap.size, 0, none⟩)), (26, .slice (some ⟨lb, lo, none⟩) p.decls.length fc), (27, .int .i64 (k : Int)), (28, .pointer (some ⟨lb, lo + k * 2, none⟩)), (29, .pointer (some ⟨lb, lo + k * 2, none⟩)), (30, .string d.name), (31, .string (relOf d.name)), (32, .pointer (some ⟨w.heap.size, 0, none⟩)), (33, .slice (some ⟨lb, lo, none⟩) p.decls.length fc), (34, .int .i64 (k : Int)), (35, .pointer (some ⟨lb, lo + k * 2, none⟩)), (36, .pointer (some ⟨lb, lo + k * 2 + 1, none⟩)), (37, .int .i64 d.arity), (38, .int .i64 (pickZ d.arity 8)), (39, .int .i64 (1 + pickZ d.arity 8)), (40, .agg #[.string (relOf d.name), .int .i64 (1 + pickZ d.arity 8)]), (41, v18), (42, .slice va (k + 1) vcap), (43, .pointer (some ⟨w.heap.size + 2, 0, none⟩))] (by kernel_rfl) (by intro p hp; simp only [List.mem_cons, List.not_mem_nil, or_false] at hp; rcases hp with rfl | rfl | rfl | rfl | rfl | rfl | rfl | rfl | rfl | rfl | rfl | rfl | rfl | rfl | rfl | rfl | rfl | rfl | rfl | rfl | rfl <;> assumption)];clear hoff hf e0 e1 e2 e3 e4 e5 e6 e7 e8 e9 e10 e11 e12 e13 e14 e15 e16 e17 e18 f18 e19 f19 e20;simp only [List.foldl_cons, List.foldl_nil, List.setIfInBounds_toArray, List.set_cons_zero, List.set_cons_succ]
     go_simp;have HM6 := Lib.hid (hm6.far (p := ⟨w.heap.size + 2, 0, none⟩) (by have := HSZ2.out; simp; omega) (.slice va (k + 1) vcap));have OB6 : Hid (BoxPr (w'.setCell ⟨w.heap.size + 2, 0, none⟩ (.slice va (k + 1) vcap)) (w.heap.size + 2) (.slice va (k + 1) vcap) (.slice none 0 0) (.slice none 0 0)) := heap_setCell_same _ _ _ _ _ _ OR6.out;have HB6 := Lib.hid ((HBUT.out.step (Nat.le_refl _) hg.below).set 0 (.slice va (k + 1) vcap));clear hg hm6 o0 o1 o2 z0;go_wp2_with fail
     go_roundw
     case rel => exact ⟨k + 1, .slice va (k + 1) vcap, by have := HKL.out; omega, by have := HKL.out; omega, (by have := HKL.out; rw [show wrap64 ((k : Int) + 1) = ((k + 1 : Nat) : Int) by unfold wrap64; omega]), by rw [HTK.out]; exact HM6.out, OB6.out, HB6.out⟩
     case measure => exact measure_up HKL.out.1 (by decide)
   ·have HFIN : Hid ((p.decls.take k).map fitDe = (p.decls.take 64).map fitDe) := take_map_end fitDe p.decls (by omega) HKB.out.1 HKB.out.2
    rw [decide_eq_false hlt];clear hlt;have D3 : Hid (MineK kdDe wr w2.heap.size ((p.decls.take 64).map fitDe) lv) := by show MineK _ _ _ _ _; rw [← HFIN.out]; exact HO.out
    have R3 : Hid (BoxPr wr (w.heap.size + 1) (.slice none 0 0) (.slice none 0 0) (.slice none 0 0)) := (HBUT.out.block _ (by have := HSZ2.out; omega) (by omega)).trans R2.out;have HSZ3 : Hid (w.heap.size + 3 ≤ wr.heap.size) := by show _ ≤ _; have := HSZ2.out; have := HWS.out; omega
    have X3 := XR; have O3 := OR; have B3 := HBW
    clear HFIN HO HKB HWS R2 X2 O2 B2 HBUT HD XR OR HBW;generalize wr = w3 at *;generalize lv = dv at *;go_wp2_with fail
    go_loopw [5, 6, 7] (fun iv _ _ wr => ∃ (k : Nat) (lv : Value), k ≤ 64 ∧ k ≤ p.facts.length ∧ iv = .int .i64 k ∧ MineK kdFa wr w3.heap.size ((p.facts.take k).map fitFa) lv ∧ BoxPr wr (w.heap.size + 2) dv lv (.slice none 0 0) ∧ But (w.heap.size + 2) w3.heap.size w3 wr) (fun iv _ _ _ => 64 - (intOf iv).toNat)
    case atStart => exact ⟨0, .slice none 0 0, by omega, Nat.zero_le _, rfl, MineK.nil _ _, O3.out, But.refl _ _ _⟩
    case round =>
     obtain ⟨k, lv, hk64, hkl, rfl, hmine, hbox, hbut⟩ := hrel;have HO := Lib.hid hmine; have OR := Lib.hid hbox; have HBUT := Lib.hid hbut
     have XR : Hid (BoxPr wr w.heap.size (.slice fa p.decls.length fc) (.slice ga p.facts.length gc) (.slice ha p.rules.length hc)) := (hbut.block _ (by have := HSZ3.out; omega) (by omega)).trans X3.out;have HWS : Hid (w3.heap.size ≤ wr.heap.size) := hbut.size;have hBW : Below w.heap.size w wr := Below.trans B3.out (hbut.below (by have := HSZ3.out; omega) (by omega));have HBW := Lib.hid hBW;have HKB := Lib.hid (And.intro hk64 hkl);have hlen := HLN.out.2.1;clear hmine hbox hbut hBW;obtain ⟨p0, p1, p2⟩ := XR.out.cells;go_upto_region 7 with fail
     go_cut [52] from 44 to 52 (fun s wx => s = .bool (decide (k < 64 ∧ k < p.facts.length)) ∧ wr = wx)
     case first =>
      by_cases c1 : k < p.facts.length
      ·have i1 : decide ((k : Int) < (p.facts.length : Int)) = true := decide_eq_true (by omega)
       by_cases c2 : k < 64
       ·have i2 : decide ((k : Int) < 64) = true := decide_eq_true (by omega)
        have HZ : Hid (decide (k < 64 ∧ k < p.facts.length) = true) := decide_eq_true ⟨c2, c1⟩;clear hk64 hkl;go_wp2_with fail
        go_meet
        exact ⟨by rw [HZ.out], rfl⟩
       ·have i2 : decide ((k : Int) < 64) = false := decide_eq_false (by omega)
        have HZ : Hid (decide (k < 64 ∧ k < p.facts.length) = false) := decide_eq_false (by omega);clear hk64 hkl;go_wp2_with fail
        go_meet
        exact ⟨by rw [HZ.out], rfl⟩
      ·have i1 : decide ((k : Int) < (p.facts.length : Int)) = false := decide_eq_false (by omega)
       have HZ : Hid (decide (k < 64 ∧ k < p.facts.length) = false) := decide_eq_false (by omega);clear hk64 hkl;go_wp2_with fail
       go_meet
       exact ⟨by rw [HZ.out], rfl⟩
     case rest =>
      obtain ⟨rfl, rfl⟩ := hcut;clear hlen hk64 hkl p0 p1 p2
      by_cases hlt : k < 64 ∧ k < p.facts.length
      ·rw [decide_eq_true hlt]
       obtain ⟨hlt1, hlt2⟩ := hlt;have hA := (RepFas.on (fun _ h => h) (fun j hj => HBW.out.block j (HS.out j hj)) HF.out : RepFas S wr p.facts (.slice ga p.facts.length gc));obtain ⟨-, hcap2, lb, lo, xa, xc, hga2, hSb, g0, g1, g⟩ := RepFas.at hA k hlt2;have HGA2 := Lib.hid hga2;have HLB : Hid (lb < wr.heap.size) := Nat.lt_of_lt_of_le (HS.out lb hSb) HBW.out.size;have Q0 := Lib.hid g0; have Q1 := Lib.hid g1
       have HK1 : Hid ((0 : Int) ≤ (k : Int)) := Int.natCast_nonneg k;have HK2 : Hid ((k : Int) < (p.facts.length : Int)) := by show _ < _; omega
       have HKL : Hid (k < 64 ∧ k < p.facts.length) := ⟨hlt1, hlt2⟩;have HLL := Lib.hid (take_map_len fitFa p.facts (Nat.le_of_lt hlt2));have HLK : Hid (((p.facts.take k).map fitFa).length ≤ 1000) := by show _ ≤ _; rw [HLL.out]; omega
       have HTK := Lib.hid (take_map_succ fitFa p.facts hlt2);have HTB : Hid (p.facts[k].name.size ≤ maxLen) := g.2.1;have G := Lib.hid g.2.2
       have HAL : Hid (p.facts[k].args.length ≤ 140737488355328) := by
        show _ ≤ _
        obtain ⟨_, _, _, _, _, _, h, _⟩ := g.2.2;omega
       have HSW : Hid (∀ j, S j → j < wr.heap.size) := fun j hj => Nat.lt_of_lt_of_le (HS.out j hj) HBW.out.size
       clear hA g hga2 hSb g0 g1 hcap2;generalize p.facts[k] = t at *;clear hlt1 hlt2;generalize wr = wm at *;obtain ⟨p0, p1, p2⟩ := XR.out.cells;rw [HGA2.out] at p1;have hk1 := HK1.out; have hk2 := HK2.out; have q0 := Q0.out
       go_wp2_with fail
       refine (Relation_any t.name _ HTB.out).mono ?_;rintro e w4 ⟨rfl, hb⟩;clear p0 p1 p2 q0 hk1 hk2;have H34 := Lib.hid hb;clear hb;go_wp2_with fail
       have n5 := alloc_new' w4 (.cells #[.int .i64 3, .int .i64 0, .string ⟨#[97]⟩, .slice none 0 0] 31);have b5 := below_alloc w4 (.cells #[.int .i64 3, .int .i64 0, .string ⟨#[97]⟩, .slice none 0 0] 31);have s5 := World.size_alloc w4 (.cells #[.int .i64 3, .int .i64 0, .string ⟨#[97]⟩, .slice none 0 0] 31);generalize w4.alloc (.cells #[.int .i64 3, .int .i64 0, .string ⟨#[97]⟩, .slice none 0 0] 31) = w5 at *;have x6 := boxFa_new w5 (.string (relOf t.name)) (.slice (some ⟨w4.heap.size, 0, none⟩) 1 1);have b6 := below_alloc w5 (.cells #[.string (relOf t.name), .slice (some ⟨w4.heap.size, 0, none⟩) 1 1] 68);generalize w5.alloc (.cells #[.string (relOf t.name), .slice (some ⟨w4.heap.size, 0, none⟩) 1 1] 68) = w6 at *;obtain ⟨k6, hk6⟩ : ∃ k6, k6 = w4.heap.size + 1 := ⟨_, rfl⟩;have HK6 := Lib.hid hk6;rw [s5, ← hk6] at x6
       try rw [s5]
       rw [← hk6];have V6 : Hid (MineE k6 w6 w4.heap.size [aV] (.slice (some ⟨w4.heap.size, 0, none⟩) 1 1)) := MineE.one ((b6.block _ (by omega)).trans n5) (Nat.le_refl _) (by omega) (flat_rep _ _ 3 0 ⟨#[97]⟩ (small64 (by omega)) (small64 (by omega)) (by decide));have X6 := Lib.hid x6;have B46 : Hid (Below w4.heap.size w4 w6) := Below.step b5 b6;clear n5 b5 s5 x6 b6 hk6;go_loopw [7] (fun iv wq => ∃ (j : Nat) (av : Value), j ≤ 7 ∧ j ≤ t.args.length ∧ iv = .int .i64 j ∧ MineE k6 wq w4.heap.size (aV :: (t.args.take j).map (fitV 4)) av ∧ BoxFa wq k6 (.string (relOf t.name)) av ∧ Below w4.heap.size w4 wq) (fun iv _ => 7 - (intOf iv).toNat)
       case atStart => exact ⟨0, _, by omega, Nat.zero_le _, rfl, V6.out, X6.out, B46.out⟩
       case round =>
        obtain ⟨j, av, hj7, hjl, rfl, hmine, hbox, hbel⟩ := hrel;have HOE := Lib.hid hmine; have ORE := Lib.hid hbox; have HB4 := Lib.hid hbel
        have HWQ : Hid (Below wm.heap.size wm wr) := Below.step H34.out hbel;have XQ : Hid (BoxPr wr w.heap.size (.slice fa p.decls.length fc) (.slice ga p.facts.length gc) (.slice ha p.rules.length hc)) := XR.out.on HWQ.out;have QQ1 : Hid (wr.cell? ⟨lb, lo + k * 2 + 1, none⟩ = _) := (HWQ.out.cell (p := ⟨lb, lo + k * 2 + 1, none⟩) HLB.out).trans Q1.out;have HJB := Lib.hid (And.intro hj7 hjl);have hlen := HAL.out;clear hmine hbox hbel;obtain ⟨p0, p1, p2⟩ := XQ.out.cells;rw [HGA2.out] at p1;have q1 := QQ1.out;have hk1 := HK1.out; have hk2 := HK2.out
        go_upto_region 11 with fail
        go_cut [77] from 65 to 77 (fun s wx => s = .bool (decide (j < 7 ∧ j < t.args.length)) ∧ wr = wx)
        case first =>
         by_cases c1 : j < t.args.length
         ·have i1 : decide ((j : Int) < (t.args.length : Int)) = true := decide_eq_true (by omega)
          by_cases c2 : j < 7
          ·have i2 : decide ((j : Int) < 7) = true := decide_eq_true (by omega)
           have HZ : Hid (decide (j < 7 ∧ j < t.args.length) = true) := decide_eq_true ⟨c2, c1⟩;clear hj7 hjl;go_wp2_with fail
           go_meet
           exact ⟨by rw [HZ.out], rfl⟩
          ·have i2 : decide ((j : Int) < 7) = false := decide_eq_false (by omega)
           have HZ : Hid (decide (j < 7 ∧ j < t.args.length) = false) := decide_eq_false (by omega);clear hj7 hjl;go_wp2_with fail
           go_meet
           exact ⟨by rw [HZ.out], rfl⟩
         ·have i1 : decide ((j : Int) < (t.args.length : Int)) = false := decide_eq_false (by omega)
          have HZ : Hid (decide (j < 7 ∧ j < t.args.length) = false) := decide_eq_false (by omega);clear hj7 hjl;go_wp2_with fail
          go_meet
          exact ⟨by rw [HZ.out], rfl⟩
        case rest =>
         obtain ⟨rfl, rfl⟩ := hcut;clear hlen hj7 hjl p0 p1 p2 q1 hk1 hk2
         by_cases hlt : j < 7 ∧ j < t.args.length
         ·rw [decide_eq_true hlt]
          obtain ⟨hlt1, hlt2⟩ := hlt;have hA := RepLG.on (S := S) (S' := S) (w := wm) (w' := wr) (fun _ h => h) (fun m hm => HWQ.out.block m (HSW.out m hm)) G.out;obtain ⟨-, hcap3, mb, mo, ya, yc, hya, hSm, y0, y1, y2, y3, gy⟩ := RepLG.at hA j hlt2;have HYA := Lib.hid hya;have HSQ : Hid (∀ m, S m → m < wr.heap.size) := fun m hm => Nat.lt_of_lt_of_le (HSW.out m hm) HWQ.out.size
          have HMB : Hid (mb < wr.heap.size) := HSQ.out mb hSm;have HLQ : Hid (lb < wr.heap.size) := Nat.lt_of_lt_of_le HLB.out HWQ.out.size;have Y0 := Lib.hid y0; have Y1 := Lib.hid y1; have Y2 := Lib.hid y2; have Y3 := Lib.hid y3
          have GY := Lib.hid gy;have HJ1 : Hid ((0 : Int) ≤ (j : Int)) := Int.natCast_nonneg j;have HJ2 : Hid ((j : Int) < (t.args.length : Int)) := by show _ < _; omega
          have HJL : Hid (j < 7 ∧ j < t.args.length) := ⟨hlt1, hlt2⟩;have HJS := Lib.hid (take_map_len (fitV 4) t.args (Nat.le_of_lt hlt2));have HJN : Hid ((aV :: (t.args.take j).map (fitV 4)).length = j + 1) := by show _ = _; rw [List.length_cons, HJS.out]
          have HJK : Hid ((aV :: (t.args.take j).map (fitV 4)).length ≤ 1000) := by show _ ≤ _; rw [HJN.out]; omega
          have HJT : Hid (aV :: (t.args.take (j + 1)).map (fitV 4) = (aV :: (t.args.take j).map (fitV 4)) ++ [fitV 4 t.args[j]]) := by show _ = _; rw [take_map_succ (fitV 4) t.args hlt2]; rfl
          have HKX : Hid (k6 < wr.heap.size) := ORE.out.lt;clear hA hya hSm y0 y1 y2 y3 gy hcap3;generalize t.args[j] = y at *;clear hlt1 hlt2;go_wp2_with fail
          refine wp_region_factsP (by rfl) 202 (by rfl) (by kernel_rfl) 13 (fun q => q == 0 || q == 1 || q == 2 || q == 3 || q == 4 || q == 5 || q == 6 || q == 7 || q == 8 || q == 9 || q == 10 || q == 11 || q == 12) (by kernel_rfl) (FB [.e (.pointer (some ⟨k6, 1, none⟩)), .e av, .e (.pointer (some ⟨w.heap.size, 1, none⟩)), .e (.slice (some ⟨lb, lo, none⟩) p.facts.length gc), .e (.int .i64 (k : Int)), .e (.pointer (some ⟨lb, lo + k * 2, none⟩)), .e (.pointer (some ⟨lb, lo + k * 2 + 1, none⟩)), .e (.slice (some ⟨mb, mo, none⟩) t.args.length xc), .e (.int .i64 (j : Int)), .e (.pointer (some ⟨mb, mo + j * 4, none⟩)), .e (.agg #[.int .i64 y.kind, .int .i64 y.num, .string y.text, .slice ya y.list.length yc]), .p (MadeV wr.heap.size (fitV 4 y)), .p (RowV wr.heap.size (fitV 4 y)), .t (fun wz vz => ∃ a cap, vz = .slice a (j + 1 + 1) cap ∧ MineE k6 wz w4.heap.size ((aV :: (t.args.take j).map (fitV 4)) ++ [fitV 4 y]) vz), .e (.pointer (some ⟨k6, 1, none⟩))]) (fun ph w' => if ph = true then Aft wr w4.heap.size av w' else Below wr.heap.size wr w') (Below.drew (Below.refl _ _)) ⟨?s0, ?s1, ?s2, ?s3, ?s4, ?s5, ?s6, ?s7, ?s8, ?s9, ?s10, ?s11, ?s12, ?s13, ?s14, trivial⟩ (by rfl) ?last
          case s0 =>
           intro a w' hoff hg hdep K hK;replace hg : Below wr.heap.size wr w' := hg;have h6 := off_at hoff 6 (v := .pointer (some ⟨k6, 0, none⟩)) (by kernel_rfl) rfl;rw [if_pos (by rfl)];go_simp;exact hK.out _ _ hg rfl (fun _ _ h => h)
          case s1 =>
           intro a w' hoff hg hdep K hK;replace hg : Below wr.heap.size wr w' := hg;obtain ⟨_, e0, rfl⟩ := hdep 0 _ 80 (by kernel_rfl) rfl rfl;rw [if_pos (by rfl)];obtain ⟨p0, p1, p2⟩ := (XQ.out.on hg).cells; rw [HGA2.out] at p1; obtain ⟨o0, o1⟩ := (ORE.out.on hg).cells; have q1 := (hg.cell (p := ⟨lb, lo + k * 2 + 1, none⟩) HLQ.out).trans QQ1.out; rw [HYA.out] at q1; have r0 := (hg.cell (p := ⟨mb, mo + j * 4, none⟩) HMB.out).trans Y0.out; have r1 := (hg.cell (p := ⟨mb, mo + j * 4 + 1, none⟩) HMB.out).trans Y1.out; have r2 := (hg.cell (p := ⟨mb, mo + j * 4 + 2, none⟩) HMB.out).trans Y2.out; have r3 := (hg.cell (p := ⟨mb, mo + j * 4 + 3, none⟩) HMB.out).trans Y3.out
           go_simp;exact hK.out _ _ hg rfl (fun _ _ h => h)
          case s2 =>
           intro a w' hoff hg hdep K hK;replace hg : Below wr.heap.size wr w' := hg;have h1 := off_at hoff 1 (v := .pointer (some ⟨w.heap.size, 0, none⟩)) (by kernel_rfl) rfl;rw [if_pos (by rfl)];go_simp;exact hK.out _ _ hg rfl (fun _ _ h => h)
          case s3 =>
           intro a w' hoff hg hdep K hK;replace hg : Below wr.heap.size wr w' := hg;obtain ⟨_, e2, rfl⟩ := hdep 2 _ 82 (by kernel_rfl) rfl rfl;rw [if_pos (by rfl)];obtain ⟨p0, p1, p2⟩ := (XQ.out.on hg).cells; rw [HGA2.out] at p1; obtain ⟨o0, o1⟩ := (ORE.out.on hg).cells; have q1 := (hg.cell (p := ⟨lb, lo + k * 2 + 1, none⟩) HLQ.out).trans QQ1.out; rw [HYA.out] at q1; have r0 := (hg.cell (p := ⟨mb, mo + j * 4, none⟩) HMB.out).trans Y0.out; have r1 := (hg.cell (p := ⟨mb, mo + j * 4 + 1, none⟩) HMB.out).trans Y1.out; have r2 := (hg.cell (p := ⟨mb, mo + j * 4 + 2, none⟩) HMB.out).trans Y2.out; have r3 := (hg.cell (p := ⟨mb, mo + j * 4 + 3, none⟩) HMB.out).trans Y3.out
           go_simp;exact hK.out _ _ hg rfl (fun _ _ h => h)
          case s4 =>
           intro a w' hoff hg hdep K hK;replace hg : Below wr.heap.size wr w' := hg;have h5 := off_at hoff 5 (v := .int .i64 (k : Int)) (by kernel_rfl) rfl;rw [if_pos (by rfl)];go_simp;exact hK.out _ _ hg rfl (fun _ _ h => h)
          case s5 =>
           intro a w' hoff hg hdep K hK;replace hg : Below wr.heap.size wr w' := hg;obtain ⟨_, e3, rfl⟩ := hdep 3 _ 83 (by kernel_rfl) rfl rfl;obtain ⟨_, e4, rfl⟩ := hdep 4 _ 84 (by kernel_rfl) rfl rfl;rw [if_pos (by rfl)];have hk1 := HK1.out; have hk2 := HK2.out
           go_simp;exact hK.out _ _ hg rfl (fun _ _ h => h)
          case s6 =>
           intro a w' hoff hg hdep K hK;replace hg : Below wr.heap.size wr w' := hg;obtain ⟨_, e5, rfl⟩ := hdep 5 _ 85 (by kernel_rfl) rfl rfl;rw [if_pos (by rfl)];go_simp;exact hK.out _ _ hg rfl (fun _ _ h => h)
          case s7 =>
           intro a w' hoff hg hdep K hK;replace hg : Below wr.heap.size wr w' := hg;obtain ⟨_, e6, rfl⟩ := hdep 6 _ 86 (by kernel_rfl) rfl rfl;rw [if_pos (by rfl)];obtain ⟨p0, p1, p2⟩ := (XQ.out.on hg).cells; rw [HGA2.out] at p1; obtain ⟨o0, o1⟩ := (ORE.out.on hg).cells; have q1 := (hg.cell (p := ⟨lb, lo + k * 2 + 1, none⟩) HLQ.out).trans QQ1.out; rw [HYA.out] at q1; have r0 := (hg.cell (p := ⟨mb, mo + j * 4, none⟩) HMB.out).trans Y0.out; have r1 := (hg.cell (p := ⟨mb, mo + j * 4 + 1, none⟩) HMB.out).trans Y1.out; have r2 := (hg.cell (p := ⟨mb, mo + j * 4 + 2, none⟩) HMB.out).trans Y2.out; have r3 := (hg.cell (p := ⟨mb, mo + j * 4 + 3, none⟩) HMB.out).trans Y3.out
           go_simp;exact hK.out _ _ hg rfl (fun _ _ h => h)
          case s8 =>
           intro a w' hoff hg hdep K hK;replace hg : Below wr.heap.size wr w' := hg;have h7 := off_at hoff 7 (v := .int .i64 (j : Int)) (by kernel_rfl) rfl;rw [if_pos (by rfl)];go_simp;exact hK.out _ _ hg rfl (fun _ _ h => h)
          case s9 =>
           intro a w' hoff hg hdep K hK;replace hg : Below wr.heap.size wr w' := hg;obtain ⟨_, e7, rfl⟩ := hdep 7 _ 87 (by kernel_rfl) rfl rfl;obtain ⟨_, e8, rfl⟩ := hdep 8 _ 88 (by kernel_rfl) rfl rfl;rw [if_pos (by rfl)];have hj1 := HJ1.out; have hj2 := HJ2.out
           go_simp;exact hK.out _ _ hg rfl (fun _ _ h => h)
          case s10 =>
           intro a w' hoff hg hdep K hK;replace hg : Below wr.heap.size wr w' := hg;obtain ⟨_, e9, rfl⟩ := hdep 9 _ 89 (by kernel_rfl) rfl rfl;rw [if_pos (by rfl)];obtain ⟨p0, p1, p2⟩ := (XQ.out.on hg).cells; rw [HGA2.out] at p1; obtain ⟨o0, o1⟩ := (ORE.out.on hg).cells; have q1 := (hg.cell (p := ⟨lb, lo + k * 2 + 1, none⟩) HLQ.out).trans QQ1.out; rw [HYA.out] at q1; have r0 := (hg.cell (p := ⟨mb, mo + j * 4, none⟩) HMB.out).trans Y0.out; have r1 := (hg.cell (p := ⟨mb, mo + j * 4 + 1, none⟩) HMB.out).trans Y1.out; have r2 := (hg.cell (p := ⟨mb, mo + j * 4 + 2, none⟩) HMB.out).trans Y2.out; have r3 := (hg.cell (p := ⟨mb, mo + j * 4 + 3, none⟩) HMB.out).trans Y3.out
           go_simp;exact hK.out _ _ hg rfl (fun _ _ h => h)
          case s11 =>
           intro a w' hoff hg hdep K hK;replace hg : Below wr.heap.size wr w' := hg;obtain ⟨_, e10, rfl⟩ := hdep 10 _ 90 (by kernel_rfl) rfl rfl;rw [if_pos (by rfl)];go_simp;refine (Fit_any y w'.heap.size w' _ _ _ _ (Nat.le_refl _) (RepG.on (fun m hm => Nat.lt_of_lt_of_le (HSQ.out m hm) hg.size) (fun m hm => hg.block m (HSQ.out m hm)) y GY.out)).mono ?_;intro e w2' hm;obtain ⟨u, rfl, hp, hb⟩ := MadeV.of (B := wr.heap.size) hg.size hm;exact hK.out _ _ (Below.step hg hb) (fun _ => hp) (fStP ⟨fun _ h => MadeV.stay hb h, fun _ h => RowV.stay hb h, trivial⟩)
          case s12 =>
           intro a w' hoff hg hdep K hK;replace hg : Below wr.heap.size wr w' := hg;obtain ⟨v11, e11, f11⟩ := hdep 11 _ 91 (by kernel_rfl) rfl rfl;have g11 : MadeV wr.heap.size (fitV 4 y) w' v11 := f11 rfl;obtain ⟨d0, d1, d2, d3, rfl, kv⟩ := g11;rw [if_pos (by rfl)];go_simp;have hb := below_alloc w' (.cells #[d0, d1, d2, d3] 31);have hp := RowV.new hg.size kv;exact hK.out _ _ (Below.step hg hb) (fun _ => hp) (fStP ⟨fun _ h => MadeV.stay hb h, fun _ h => RowV.stay hb h, trivial⟩)
          case s13 =>
           intro a w' hoff hg hdep K hK;replace hg : Below wr.heap.size wr w' := hg;obtain ⟨v1, e1, f1⟩ := hdep 1 _ 81 (by kernel_rfl) rfl rfl;obtain rfl : av = v1 := Eq.symm f1;obtain ⟨v12, e12, f12⟩ := hdep 12 _ 92 (by kernel_rfl) rfl rfl;have g12 : RowV wr.heap.size (fitV 4 y) w' v12 := f12 rfl;obtain ⟨b, d0, d1, d2, d3, rfl, hbk, hbb, hrep⟩ := g12;obtain ⟨va, vcap, w8, hrun, hm6, hgr⟩ := own_appendE (y := fitV 4 y) (c := at4v d0 d1 d2 d3) (HOE.out.stands hg) (Nat.lt_of_lt_of_le HKX.out hg.size) (Nat.le_trans HB4.out.size hg.size) HJK.out hbk rfl (fun i hi => match i, hi with | 0, _ => rfl | 1, _ => rfl | 2, _ => rfl | 3, _ => rfl) (RepG.on (fun b' hb' => ⟨Nat.le_trans HB4.out.size hb'.1, hb'.2, fun e => by have := (OwnK.lies HOE.out.1 b' e).2; omega, by have := HKX.out; omega⟩) (fun _ _ => rfl) _ hrep) 29;refine step_append_by rfl (.tmp 81) (.tmp 92) 29 rfl (by simp [Act.eval, e1]) (by simp [Act.eval, e12]) hrun ?_;have hlk := HJN.out;rw [hlk] at hm6 ⊢;have hp : ∃ a cap, (.slice va (j + 1 + 1) vcap : Value) = .slice a (j + 1 + 1) cap ∧ MineE k6 w8 w4.heap.size ((aV :: (t.args.take j).map (fitV 4)) ++ [fitV 4 y]) (.slice va (j + 1 + 1) vcap) := ⟨_, _, rfl, hm6⟩;have hG2 := Aft.of HOE.out.1 HB4.out.size hg hgr;exact hK.out _ _ hG2 (fun _ => hp) (fPass rfl)
          case s14 =>
           intro ph a w' hoff hg hdep K hK;have h6 := off_at hoff 6 (v := .pointer (some ⟨k6, 0, none⟩)) (by kernel_rfl) rfl;rw [if_pos (by rfl)];go_simp;exact hK.out _ _ hg rfl (fun _ _ h => h)
          case last =>
           intro a w' hoff hg hf;replace hg : Aft wr w4.heap.size av w' := hg;obtain ⟨_, e0, rfl⟩ := hf 0 _ 80 (by decide) rfl rfl;obtain ⟨v1, e1, f1⟩ := hf 1 _ 81 (by decide) rfl rfl;obtain rfl : av = v1 := Eq.symm f1;obtain ⟨_, e2, rfl⟩ := hf 2 _ 82 (by decide) rfl rfl;obtain ⟨_, e3, rfl⟩ := hf 3 _ 83 (by decide) rfl rfl;obtain ⟨_, e4, rfl⟩ := hf 4 _ 84 (by decide) rfl rfl;obtain ⟨_, e5, rfl⟩ := hf 5 _ 85 (by decide) rfl rfl;obtain ⟨_, e6, rfl⟩ := hf 6 _ 86 (by decide) rfl rfl;obtain ⟨_, e7, rfl⟩ := hf 7 _ 87 (by decide) rfl rfl;obtain ⟨_, e8, rfl⟩ := hf 8 _ 88 (by decide) rfl rfl;obtain ⟨_, e9, rfl⟩ := hf 9 _ 89 (by decide) rfl rfl;obtain ⟨_, e10, rfl⟩ := hf 10 _ 90 (by decide) rfl rfl;obtain ⟨v11, e11, f11⟩ := hf 11 _ 91 (by decide) rfl rfl;obtain ⟨v12, e12, f12⟩ := hf 12 _ 92 (by decide) rfl rfl;obtain ⟨v13, e13, f13⟩ := hf 13 _ 93 (by decide) rfl rfl;have g13 : ∃ a cap, v13 = .slice a (j + 1 + 1) cap ∧ MineE k6 w' w4.heap.size ((aV :: (t.args.take j).map (fitV 4)) ++ [fitV 4 y]) v13 := f13 rfl;obtain ⟨_, e14, rfl⟩ := hf 14 _ 94 (by decide) rfl rfl;obtain ⟨va, vcap, rfl, hm6⟩ := g13;have OR6 : Hid (BoxFa w' k6 (.string (relOf t.name)) av) := (hg.block _ HKX.out HOE.out.2).trans ORE.out;obtain ⟨o0, o1⟩ := OR6.out.cells;have z1 := frozen_of_row w' k6 1 _ _ OR6.out;rw [if_pos (by rfl)];rw [hoff.sets [(80, .pointer (some ⟨k6, 1, none⟩)), (81, av), (82, .pointer (some ⟨w.heap.size, 1, none⟩)), (83, .slice (some ⟨lb, lo, none⟩) p.facts.length gc), (84, .int .i64 (k : Int)), (85, .pointer (some ⟨lb, lo + k * 2, none⟩)), (86, .pointer (some ⟨lb, lo + k * 2 + 1, none⟩)), (87, .slice (some ⟨mb, mo, none⟩) t.args.length xc), (88, .int .i64 (j : Int)), (89, .pointer (some ⟨mb, mo + j * 4, none⟩)), (90, .agg #[.int .i64 y.kind, .int .i64 y.num, .string y.text, .slice ya y.list.length yc]), (91, v11), (92, v12), (93, .slice va (j + 1 + 1) vcap), (94, .pointer (some ⟨k6, 1, none⟩))] (by kernel_rfl) (by intro p hp; simp only [List.mem_cons, List.not_mem_nil, or_false] at hp; rcases hp with rfl | rfl | rfl | rfl | rfl | rfl | rfl | rfl | rfl | rfl | rfl | rfl | rfl | rfl | rfl <;> assumption)];clear hoff hf e0 e1 e2 e3 e4 e5 e6 e7 e8 e9 e10 e11 f11 e12 f12 e13 f13 e14;simp only [List.foldl_cons, List.foldl_nil, List.setIfInBounds_toArray, List.set_cons_zero, List.set_cons_succ]
           go_simp;have HM6 := Lib.hid (MineX.set hm6 1 (.slice va (j + 1 + 1) vcap));have OB6 : Hid (BoxFa (w'.setCell ⟨k6, 1, none⟩ (.slice va (j + 1 + 1) vcap)) k6 (.string (relOf t.name)) (.slice va (j + 1 + 1) vcap)) := heap_setCell_same _ _ _ _ _ _ OR6.out;have HB6 := Lib.hid ((HB4.out.trans hg.below).setCell (p := ⟨k6, 1, none⟩) (by have := HK6.out; simp; omega) (.slice va (j + 1 + 1) vcap));clear hg hm6 o0 o1 z1;go_wp2_with fail
           go_roundw
           case rel => exact ⟨j + 1, .slice va (j + 1 + 1) vcap, by have := HJL.out; omega, by have := HJL.out; omega, (by have := HJL.out; rw [show wrap64 ((j : Int) + 1) = ((j + 1 : Nat) : Int) by unfold wrap64; omega]), by rw [HJT.out]; exact HM6.out, OB6.out, HB6.out⟩
           case measure => exact measure_up HJL.out.1 (by decide)
         ·have HFIN : Hid ((t.args.take j).map (fitV 4) = (t.args.take 7).map (fitV 4)) := take_map_end (fitV 4) t.args (by omega) HJB.out.1 HJB.out.2
          rw [decide_eq_false hlt];clear hlt;have HFT : Hid (fitFa t = ⟨relOf t.name, aV :: (t.args.take j).map (fitV 4)⟩) := by show _ = _; rw [HFIN.out]; rfl
          have HNL : Hid ((aV :: (t.args.take j).map (fitV 4)).length ≤ 100000) := by show _ ≤ _; rw [List.length_cons, List.length_map, List.length_take]; have := HJB.out.1; omega
          have ORQ : Hid (BoxPr wr (w.heap.size + 2) dv lv (.slice none 0 0)) := OR.out.on HWQ.out;have h4s := HB4.out.size; have hws := HWS.out; have h34s := H34.out.size
          obtain ⟨va, vcap, w8, hrun, hm8, hgr⟩ := own_append (K := kdFa) (y := fitFa t) (c := at2v (.string (relOf t.name)) av) (cs := #[.string (relOf t.name), av]) (ty := 23)
           ((HO.out.stands HWQ.out).stands (below_alloc wr (.cells #[.string (relOf t.name), av] 68))) (by simp; omega) HLK.out (alloc_new' wr _) rfl (fun i hi => match i, hi with | 0, _ => rfl | 1, _ => rfl)
           (by
            refine ⟨by rw [HFT.out]; rfl, by rw [HFT.out]; exact Nat.le_trans (relOf_size _) (by decide), ?_⟩;rw [HFT.out]
            refine RepLG.on (S := fun m => w4.heap.size ≤ m ∧ m < wr.heap.size) (fun m hm => ⟨by omega, by simp; omega, fun e => by have := (OwnK.lies HO.out m e).2; omega⟩) (fun m hm => Below.heap_alloc _ _ _ hm.2) (MineE.lg HOE.out (fun m h1 h2 => ⟨h1, h2⟩) HNL.out))
          rw [HLL.out] at hrun hm8;have HRUN := Lib.hid hrun;have hA8 : Aft wr w3.heap.size lv w8 := Aft.of (HO.out.stands HWQ.out) (by omega) (below_alloc wr _) hgr;have OR8 : Hid (BoxPr w8 (w.heap.size + 2) dv lv (.slice none 0 0)) := (hA8.below.block _ (by have := HSZ3.out; omega)).trans ORQ.out;have HM9 := Lib.hid (hm8.far (p := ⟨w.heap.size + 2, 1, none⟩) (by have := HSZ3.out; simp; omega) (.slice va (k + 1) vcap));have OB9 : Hid (BoxPr (w8.setCell ⟨w.heap.size + 2, 1, none⟩ (.slice va (k + 1) vcap)) (w.heap.size + 2) dv (.slice va (k + 1) vcap) (.slice none 0 0)) := heap_setCell_same _ _ _ _ _ _ OR8.out;have HB9 := Lib.hid (((HBUT.out.step hws HWQ.out).step (Nat.le_refl _) hA8.below).set 1 (.slice va (k + 1) vcap));obtain ⟨a0, a1⟩ := ORE.out.cells;obtain ⟨p0, p1, p2⟩ := ORQ.out.cells;obtain ⟨o0, o1, o2⟩ := OR8.out.cells;have z1 := frozen_of_row w8 (w.heap.size + 2) 1 _ _ OR8.out;clear hrun hm8 hgr hA8 h4s hws h34s;go_wp2_with (at_builtin; refine wpList_append_by rfl _ _ _ rfl rfl rfl HRUN.out ?_)
          clear a0 a1 p0 p1 p2 o0 o1 o2 z1;go_roundw
          case rel => exact ⟨k + 1, .slice va (k + 1) vcap, by have := HKL.out; omega, by have := HKL.out; omega, (by have := HKL.out; rw [show wrap64 ((k : Int) + 1) = ((k + 1 : Nat) : Int) by unfold wrap64; omega]), by rw [HTK.out]; exact HM9.out, OB9.out, HB9.out⟩
          case measure => exact measure_up HKL.out.1 (by decide)
      ·have HFIN : Hid ((p.facts.take k).map fitFa = (p.facts.take 64).map fitFa) := take_map_end fitFa p.facts (by omega) HKB.out.1 HKB.out.2
       rw [decide_eq_false hlt];clear hlt;have F4 : Hid (MineK kdFa wr w3.heap.size ((p.facts.take 64).map fitFa) lv) := by show MineK _ _ _ _ _; rw [← HFIN.out]; exact HO.out
       have D4 : Hid (MineK kdDe wr w2.heap.size ((p.decls.take 64).map fitDe) dv) := D3.out.but HBUT.out (by have := HSZ2.out; omega);have R4 : Hid (BoxPr wr (w.heap.size + 1) (.slice none 0 0) (.slice none 0 0) (.slice none 0 0)) := (HBUT.out.block _ (by have := HSZ3.out; omega) (by omega)).trans R3.out;have HSZ4 : Hid (w.heap.size + 3 ≤ wr.heap.size) := by show _ ≤ _; have := HSZ3.out; have := HWS.out; omega
       have HS34 : Hid (w2.heap.size ≤ w3.heap.size ∧ w3.heap.size ≤ wr.heap.size) := by show _ ∧ _; have := HSZ3.out; have := HSZ2.out; have := HWS.out; omega
       have X4 := XR; have O4 := OR; have B4 := HBW
       clear HFIN HO HKB HWS R3 X3 O3 B3 HBUT HF XR OR HBW D3;generalize wr = w4 at *;generalize lv = fv at *;go_wp2_with fail
       go_loopw [8, 9, 10, 11] (fun iv _ _ _ wr => ∃ (k : Nat) (lv : Value), k ≤ 64 ∧ k ≤ p.rules.length ∧ iv = .int .i64 k ∧ MineK kdRu wr w4.heap.size ((p.rules.take k).map fitRu) lv ∧ BoxPr wr (w.heap.size + 2) dv fv lv ∧ But (w.heap.size + 2) w4.heap.size w4 wr) (fun iv _ _ _ _ => 64 - (intOf iv).toNat)
       case atStart => exact ⟨0, .slice none 0 0, by omega, Nat.zero_le _, rfl, MineK.nil _ _, O4.out, But.refl _ _ _⟩
       case round =>
        obtain ⟨k, lv, hk64, hkl, rfl, hmine, hbox, hbut⟩ := hrel;have HO := Lib.hid hmine; have OR := Lib.hid hbox; have HBUT := Lib.hid hbut
        have XR : Hid (BoxPr wr w.heap.size (.slice fa p.decls.length fc) (.slice ga p.facts.length gc) (.slice ha p.rules.length hc)) := (hbut.block _ (by have := HSZ4.out; omega) (by omega)).trans X4.out;have HWS : Hid (w4.heap.size ≤ wr.heap.size) := hbut.size;have hBW : Below w.heap.size w wr := Below.trans B4.out (hbut.below (by have := HSZ4.out; omega) (by omega));have HBW := Lib.hid hBW;have HKB := Lib.hid (And.intro hk64 hkl);have hlen := HLN.out.2.2;clear hmine hbox hbut hBW;obtain ⟨p0, p1, p2⟩ := XR.out.cells;go_upto_region 16 with fail
        go_cut [109] from 101 to 109 (fun s wx => s = .bool (decide (k < 64 ∧ k < p.rules.length)) ∧ wr = wx)
        case first =>
         by_cases c1 : k < p.rules.length
         ·have i1 : decide ((k : Int) < (p.rules.length : Int)) = true := decide_eq_true (by omega)
          by_cases c2 : k < 64
          ·have i2 : decide ((k : Int) < 64) = true := decide_eq_true (by omega)
           have HZ : Hid (decide (k < 64 ∧ k < p.rules.length) = true) := decide_eq_true ⟨c2, c1⟩;clear hk64 hkl;go_wp2_with fail
           go_meet
           exact ⟨by rw [HZ.out], rfl⟩
          ·have i2 : decide ((k : Int) < 64) = false := decide_eq_false (by omega)
           have HZ : Hid (decide (k < 64 ∧ k < p.rules.length) = false) := decide_eq_false (by omega);clear hk64 hkl;go_wp2_with fail
           go_meet
           exact ⟨by rw [HZ.out], rfl⟩
         ·have i1 : decide ((k : Int) < (p.rules.length : Int)) = false := decide_eq_false (by omega)
          have HZ : Hid (decide (k < 64 ∧ k < p.rules.length) = false) := decide_eq_false (by omega);clear hk64 hkl;go_wp2_with fail
          go_meet
          exact ⟨by rw [HZ.out], rfl⟩
        case rest =>
         obtain ⟨rfl, rfl⟩ := hcut;clear hlen hk64 hkl p0 p1 p2
         by_cases hlt : k < 64 ∧ k < p.rules.length
         ·rw [decide_eq_true hlt]
          obtain ⟨hlt1, hlt2⟩ := hlt;have hA := (RepRus.on (fun _ h => h) (fun j hj => HBW.out.block j (HS.out j hj)) HR.out : RepRus S wr p.rules (.slice ha p.rules.length hc));obtain ⟨-, hcap2, lb, lo, xa, xc, ya, yc, hga2, hSb, g0, g1, g2, g3, g4, g5, g⟩ := RepRus.at hA k hlt2;have HGA2 := Lib.hid hga2;have HLB : Hid (lb < wr.heap.size) := Nat.lt_of_lt_of_le (HS.out lb hSb) HBW.out.size;have Q := Lib.hid (And.intro g0 (And.intro g1 (And.intro g2 (And.intro g3 (And.intro g4 g5)))));have HK1 : Hid ((0 : Int) ≤ (k : Int)) := Int.natCast_nonneg k;have HK2 : Hid ((k : Int) < (p.rules.length : Int)) := by show _ < _; omega
          have HKL : Hid (k < 64 ∧ k < p.rules.length) := ⟨hlt1, hlt2⟩;have HLL := Lib.hid (take_map_len fitRu p.rules (Nat.le_of_lt hlt2));have HLK : Hid (((p.rules.take k).map fitRu).length ≤ 1000) := by show _ ≤ _; rw [HLL.out]; omega
          have HTK := Lib.hid (take_map_succ fitRu p.rules hlt2);have HSW : Hid (∀ j, S j → j < wr.heap.size) := fun j hj => Nat.lt_of_lt_of_le (HS.out j hj) HBW.out.size
          have HN := Lib.hid (And.intro g.2.2.2.2.1 (And.intro g.2.2.2.2.2.1 (And.intro g.2.2.2.2.2.2.1 g.2.2.2.2.2.2.2.1)));have GM := Lib.hid g.2.2.2.2.2.2.2.2.1; have GL := Lib.hid g.2.2.2.2.2.2.2.2.2
          clear hA g hga2 hSb g0 g1 g2 g3 g4 g5 hcap2;generalize p.rules[k] = r at *;clear hlt1 hlt2;generalize wr = wm at *
          have HAL : Hid (r.body.length ≤ 140737488355328) := by
           show _ ≤ _
           have := SlG.bytes GL.out;omega
          obtain ⟨p0, p1, p2⟩ := XR.out.cells;rw [HGA2.out] at p2;obtain ⟨q0, q1, q2, q3, q4, q5⟩ := Q.out;have hk1 := HK1.out; have hk2 := HK2.out
          go_wp2_with fail
          clear p0 p1 p2 q0 q1 q2 q3 q4 q5 hk1 hk2;have x9 := boxRu_new wm (.string r.label) (.string r.head) (.slice xa r.args.length xc) (.string r.agg) (.int .i64 r.at') (.slice ya r.body.length yc);have b9 := below_alloc wm (.cells #[.string r.label, .string r.head, .slice xa r.args.length xc, .string r.agg, .int .i64 r.at', .slice ya r.body.length yc] 61);have s9 := World.size_alloc wm (.cells #[.string r.label, .string r.head, .slice xa r.args.length xc, .string r.agg, .int .i64 r.at', .slice ya r.body.length yc] 61);generalize wm.alloc (.cells #[.string r.label, .string r.head, .slice xa r.args.length xc, .string r.agg, .int .i64 r.at', .slice ya r.body.length yc] 61) = w5 at *;obtain ⟨k9, hk9⟩ : ∃ k9, k9 = wm.heap.size := ⟨_, rfl⟩;rw [← hk9] at x9;rw [← hk9];have X9 := Lib.hid x9; have B9 := Lib.hid b9
          have HZ9 : Hid (k9 = wm.heap.size ∧ w5.heap.size = wm.heap.size + 1) := ⟨hk9, s9⟩;have HS5 : Hid (∀ j, S j → j < w5.heap.size) := fun j hj => Nat.lt_of_lt_of_le (HSW.out j hj) b9.size
          have GM5 := Lib.hid (RepMs.on (S := S) (S' := S) (fun _ h => h) (fun j hj => b9.block j (HSW.out j hj)) GM.out);clear x9 b9 s9 hk9;refine wp_region_factsL (by rfl) 202 (by rfl) (by kernel_rfl) (FA [.e (.pointer (some ⟨k9, 0, none⟩)), .e (.string r.label), .e (.string (relOf r.label)), .e (.pointer (some ⟨k9, 1, none⟩)), .e (.string r.head), .e (.string (relOf r.head)), .e (.pointer (some ⟨k9, 2, none⟩)), .e (.slice xa r.args.length xc), .p (MadeArgs w5.heap.size (fitArgs r.args)), .p (MadeHead w5.heap.size (relOf r.label) (relOf r.head) (fitArgs r.args)), .p (BoxZ w5.heap.size)]) (fun w' => Below w5.heap.size w5 w') (Below.drew (Below.refl _ _)) ⟨?s0, ?s1, ?s2, ?s3, ?s4, ?s5, ?s6, ?s7, ?s8, ?s9, ?s10, trivial⟩ (by rfl) ?last (by decide)
          case s0 =>
           intro a w' hoff hg hdep K hK;have h9 := off_at hoff 9 (v := .pointer (some ⟨k9, 0, none⟩)) (by kernel_rfl) rfl;rw [if_pos (by rfl)];go_simp;exact hK.out _ _ hg rfl (fun _ _ h => h)
          case s1 =>
           intro a w' hoff hg hdep K hK;obtain ⟨_, e0, rfl⟩ := hdep 0 _ 117 (by kernel_rfl) rfl rfl;rw [if_pos (by rfl)];obtain ⟨p0, p1, p2, p3, p4, p5⟩ := (X9.out.on hg).cells;go_simp;exact hK.out _ _ hg rfl (fun _ _ h => h)
          case s2 =>
           intro a w' hoff hg hdep K hK;obtain ⟨_, e1, rfl⟩ := hdep 1 _ 118 (by kernel_rfl) rfl rfl;rw [if_pos (by rfl)];go_simp;refine (Relation_any r.label _ HN.out.1).mono ?_;rintro e w2' ⟨rfl, hb⟩;exact hK.out _ _ (Below.step hg hb) rfl (fSt ⟨fun _ h => MadeArgs.stay hb h, fun _ h => MadeHead.stay hb h, fun _ h => BoxZ.stay hb h, trivial⟩)
          case s3 =>
           intro a w' hoff hg hdep K hK;have h9 := off_at hoff 9 (v := .pointer (some ⟨k9, 0, none⟩)) (by kernel_rfl) rfl;rw [if_pos (by rfl)];go_simp;exact hK.out _ _ hg rfl (fun _ _ h => h)
          case s4 =>
           intro a w' hoff hg hdep K hK;obtain ⟨_, e3, rfl⟩ := hdep 3 _ 120 (by kernel_rfl) rfl rfl;rw [if_pos (by rfl)];obtain ⟨p0, p1, p2, p3, p4, p5⟩ := (X9.out.on hg).cells;go_simp;exact hK.out _ _ hg rfl (fun _ _ h => h)
          case s5 =>
           intro a w' hoff hg hdep K hK;obtain ⟨_, e4, rfl⟩ := hdep 4 _ 121 (by kernel_rfl) rfl rfl;rw [if_pos (by rfl)];go_simp;refine (Relation_any r.head _ HN.out.2.1).mono ?_;rintro e w2' ⟨rfl, hb⟩;exact hK.out _ _ (Below.step hg hb) rfl (fSt ⟨fun _ h => MadeArgs.stay hb h, fun _ h => MadeHead.stay hb h, fun _ h => BoxZ.stay hb h, trivial⟩)
          case s6 =>
           intro a w' hoff hg hdep K hK;have h9 := off_at hoff 9 (v := .pointer (some ⟨k9, 0, none⟩)) (by kernel_rfl) rfl;rw [if_pos (by rfl)];go_simp;exact hK.out _ _ hg rfl (fun _ _ h => h)
          case s7 =>
           intro a w' hoff hg hdep K hK;obtain ⟨_, e6, rfl⟩ := hdep 6 _ 123 (by kernel_rfl) rfl rfl;rw [if_pos (by rfl)];obtain ⟨p0, p1, p2, p3, p4, p5⟩ := (X9.out.on hg).cells;go_simp;exact hK.out _ _ hg rfl (fun _ _ h => h)
          case s8 =>
           intro a w' hoff hg hdep K hK;obtain ⟨_, e7, rfl⟩ := hdep 7 _ 124 (by kernel_rfl) rfl rfl;rw [if_pos (by rfl)];go_simp;refine (fitArgs_any r.args S w' _ (fun j hj => Nat.lt_of_lt_of_le (HS5.out j hj) hg.size) (RepMs.on (fun _ h => h) (fun j hj => hg.block j (HS5.out j hj)) GM5.out)).mono ?_;rintro e w2' ⟨u, rfl, hm, hb⟩;have hp := MadeArgs.of (B := w5.heap.size) hg.size hm;exact hK.out _ _ (Below.step hg hb) hp (fSt ⟨fun _ h => MadeArgs.stay hb h, fun _ h => MadeHead.stay hb h, fun _ h => BoxZ.stay hb h, trivial⟩)
          case s9 =>
           intro a w' hoff hg hdep K hK;obtain ⟨_, e2, rfl⟩ := hdep 2 _ 119 (by kernel_rfl) rfl rfl;obtain ⟨_, e5, rfl⟩ := hdep 5 _ 122 (by kernel_rfl) rfl rfl;obtain ⟨v8, e8, (g8 : MadeArgs w5.heap.size (fitArgs r.args) w' v8)⟩ := hdep 8 _ 125 (by kernel_rfl) rfl rfl;obtain ⟨a8, c8, rfl, hm8⟩ := g8;have hp : MadeHead w5.heap.size (relOf r.label) (relOf r.head) (fitArgs r.args) w' (.agg #[.string (relOf r.label), .string (relOf r.head), .slice a8 (fitArgs r.args).length c8, .string ⟨#[]⟩, .int .i64 0, .slice none 0 0]) := ⟨_, _, rfl, hm8⟩;rw [if_pos (by rfl)];go_simp;exact hK.out _ _ hg hp (fun _ _ h => h)
          case s10 =>
           intro a w' hoff hg hdep K hK;rw [if_pos (by rfl)];go_simp;have hb := below_alloc w' (.cells #[.string ⟨#[]⟩, .string ⟨#[]⟩, .slice none 0 0, .string ⟨#[]⟩, .int .i64 0, .slice none 0 0] 61);have hp := BoxZ.new (B := w5.heap.size) hg.size;exact hK.out _ _ (Below.step hg hb) hp (fSt ⟨fun _ h => MadeArgs.stay hb h, fun _ h => MadeHead.stay hb h, fun _ h => BoxZ.stay hb h, trivial⟩)
          case last =>
           intro a w' hoff hg hf;obtain ⟨_, e0, rfl⟩ := hf 0 _ 117 (by decide) rfl rfl;obtain ⟨_, e1, rfl⟩ := hf 1 _ 118 (by decide) rfl rfl;obtain ⟨_, e2, rfl⟩ := hf 2 _ 119 (by decide) rfl rfl;obtain ⟨_, e3, rfl⟩ := hf 3 _ 120 (by decide) rfl rfl;obtain ⟨_, e4, rfl⟩ := hf 4 _ 121 (by decide) rfl rfl;obtain ⟨_, e5, rfl⟩ := hf 5 _ 122 (by decide) rfl rfl;obtain ⟨_, e6, rfl⟩ := hf 6 _ 123 (by decide) rfl rfl;obtain ⟨_, e7, rfl⟩ := hf 7 _ 124 (by decide) rfl rfl;obtain ⟨v8, e8, (g8 : MadeArgs w5.heap.size (fitArgs r.args) w' v8)⟩ := hf 8 _ 125 (by decide) rfl rfl;obtain ⟨v9, e9, (g9 : MadeHead w5.heap.size (relOf r.label) (relOf r.head) (fitArgs r.args) w' v9)⟩ := hf 9 _ 126 (by decide) rfl rfl;obtain ⟨v10, e10, (g10 : BoxZ w5.heap.size w' v10)⟩ := hf 10 _ 10 (by decide) rfl rfl;obtain ⟨k10, rfl, hk10, hx10⟩ := g10;obtain ⟨aa, ac, rfl, hma⟩ := g9;have HX0 := Lib.hid hx10; have HMA0 := Lib.hid hma; have HG0 := Lib.hid hg
           have HK10 : Hid (w5.heap.size ≤ k10) := hk10;clear hx10 hma hk10 hg;rw [if_pos (by rfl)];rw [hoff.sets [(117, .pointer (some ⟨k9, 0, none⟩)), (118, .string r.label), (119, .string (relOf r.label)), (120, .pointer (some ⟨k9, 1, none⟩)), (121, .string r.head), (122, .string (relOf r.head)), (123, .pointer (some ⟨k9, 2, none⟩)), (124, .slice xa r.args.length xc), (125, v8), (126, .agg #[.string (relOf r.label), .string (relOf r.head), .slice aa (fitArgs r.args).length ac, .string ⟨#[]⟩, .int .i64 0, .slice none 0 0]), (10, .pointer (some ⟨k10, 0, none⟩))] (by kernel_rfl) (by intro p hp; simp only [List.mem_cons, List.not_mem_nil, or_false] at hp; rcases hp with rfl | rfl | rfl | rfl | rfl | rfl | rfl | rfl | rfl | rfl | rfl <;> assumption)];clear hoff hf e0 e1 e2 e3 e4 e5 e6 e7 e8 e9 e10;simp only [List.foldl_cons, List.foldl_nil, List.setIfInBounds_toArray, List.set_cons_zero, List.set_cons_succ]
           obtain ⟨o0, o1, o2, o3, o4, o5⟩ := HX0.out.cells;have z0 := frozen_of_row w' k10 0 _ _ HX0.out; have z1 := frozen_of_row w' k10 1 _ _ HX0.out; have z2 := frozen_of_row w' k10 2 _ _ HX0.out; have z3 := frozen_of_row w' k10 3 _ _ HX0.out; have z4 := frozen_of_row w' k10 4 _ _ HX0.out; have z5 := frozen_of_row w' k10 5 _ _ HX0.out
           go_simp;clear o0 o1 o2 o3 o4 o5 z0 z1 z2 z3 z4 z5;have HMX := Lib.hid ((MineX.of HMA0.out HX0.out (noRow_ru HX0.out)).set6F (.string (relOf r.label)) (.string (relOf r.head)) (.slice aa (fitArgs r.args).length ac) (.string ⟨#[]⟩) (.int .i64 0) (.slice none 0 0));have X10 := Lib.hid (set6F_box HX0.out (.string (relOf r.label)) (.string (relOf r.head)) (.slice aa (fitArgs r.args).length ac) (.string ⟨#[]⟩) (.int .i64 0) (.slice none 0 0));have B10 := Lib.hid (set6F_below HG0.out HK10.out (.string (relOf r.label)) (.string (relOf r.head)) (.slice aa (fitArgs r.args).length ac) (.string ⟨#[]⟩) (.int .i64 0) (.slice none 0 0));unfold set6F at HMX X10 B10;clear HX0 HMA0 HG0;generalize (((((w'.setCell ⟨k10, 0, none⟩ (.string (relOf r.label))).setCell ⟨k10, 1, none⟩ (.string (relOf r.head))).setCell ⟨k10, 2, none⟩ (.slice aa (fitArgs r.args).length ac)).setCell ⟨k10, 3, none⟩ (.string ⟨#[]⟩)).setCell ⟨k10, 4, none⟩ (.int .i64 0)).setCell ⟨k10, 5, none⟩ (.slice none 0 0) = w6 at *;have HK6 : Hid (k10 < w6.heap.size) := X10.out.lt;have H56 : Hid (w5.heap.size ≤ w6.heap.size) := B10.out.size;have HS6 : Hid (∀ j, S j → j < w6.heap.size) := fun j hj => Nat.lt_of_lt_of_le (HS5.out j hj) H56.out
           have GL6 := Lib.hid (RepLis.on (S := S) (S' := S) (fun _ h => h) (fun j hj => (Below.step B9.out B10.out).block j (HSW.out j hj)) GL.out);have X96 := Lib.hid (X9.out.on B10.out);go_wp2_with fail
           go_loopw [11] (fun iv wq => ∃ (j : Nat) (bv : Value), j ≤ 8 ∧ j ≤ r.body.length ∧ iv = .int .i64 j ∧ MineK kdLi wq w6.heap.size ((r.body.take j).map fitLi) bv ∧ BoxRu wq k10 (.string (relOf r.label)) (.string (relOf r.head)) (.slice aa (fitArgs r.args).length ac) (.string ⟨#[]⟩) (.int .i64 0) bv ∧ But k10 w6.heap.size w6 wq) (fun iv _ => 8 - (intOf iv).toNat)
           case atStart => exact ⟨0, .slice none 0 0, by omega, Nat.zero_le _, rfl, MineK.nil _ _, X10.out, But.refl _ _ _⟩
           case round =>
            obtain ⟨j, bv, hj8, hjl, rfl, hmine, hbox, hbut⟩ := hrel;have HOE := Lib.hid hmine; have ORE := Lib.hid hbox; have HBQ := Lib.hid hbut
            have XQ : Hid (BoxRu wr k9 (.string r.label) (.string r.head) (.slice xa r.args.length xc) (.string r.agg) (.int .i64 r.at') (.slice ya r.body.length yc)) := (hbut.block k9 X96.out.lt (by have := HZ9.out; have := HK10.out; omega)).trans X96.out;have HWS5 : Hid (w6.heap.size ≤ wr.heap.size) := hbut.size;have HJB := Lib.hid (And.intro hj8 hjl);have hlen := HAL.out;clear hmine hbox hbut;obtain ⟨p0, p1, p2, p3, p4, p5⟩ := XQ.out.cells;go_upto_region 21 with fail
            go_cut [135] from 127 to 135 (fun s wx => s = .bool (decide (j < 8 ∧ j < r.body.length)) ∧ wr = wx)
            case first =>
             by_cases c1 : j < r.body.length
             ·have i1 : decide ((j : Int) < (r.body.length : Int)) = true := decide_eq_true (by omega)
              by_cases c2 : j < 8
              ·have i2 : decide ((j : Int) < 8) = true := decide_eq_true (by omega)
               have HZ : Hid (decide (j < 8 ∧ j < r.body.length) = true) := decide_eq_true ⟨c2, c1⟩;clear hj8 hjl;go_wp2_with fail
               go_meet
               exact ⟨by rw [HZ.out], rfl⟩
              ·have i2 : decide ((j : Int) < 8) = false := decide_eq_false (by omega)
               have HZ : Hid (decide (j < 8 ∧ j < r.body.length) = false) := decide_eq_false (by omega);clear hj8 hjl;go_wp2_with fail
               go_meet
               exact ⟨by rw [HZ.out], rfl⟩
             ·have i1 : decide ((j : Int) < (r.body.length : Int)) = false := decide_eq_false (by omega)
              have HZ : Hid (decide (j < 8 ∧ j < r.body.length) = false) := decide_eq_false (by omega);clear hj8 hjl;go_wp2_with fail
              go_meet
              exact ⟨by rw [HZ.out], rfl⟩
            case rest =>
             obtain ⟨rfl, rfl⟩ := hcut;clear hlen hj8 hjl p0 p1 p2 p3 p4 p5
             by_cases hlt : j < 8 ∧ j < r.body.length
             ·rw [decide_eq_true hlt]
              obtain ⟨hlt1, hlt2⟩ := hlt;have hA := (RepLis.on (S := S) (S' := S) (fun _ h => h) (fun m hm => HBQ.out.block m (HS6.out m hm) (by have := HS5.out m hm; have := HK10.out; omega)) GL6.out : RepLis S wr r.body (.slice ya r.body.length yc));obtain ⟨-, hcap3, mb, mo, za, zc, hya, hSm, y0, y1, y2, gy⟩ := RepLis.at hA j hlt2;have HYA := Lib.hid hya;have HSQ : Hid (∀ m, S m → m < wr.heap.size) := fun m hm => Nat.lt_of_lt_of_le (HS6.out m hm) HWS5.out
              have HMB : Hid (mb < wr.heap.size) := HSQ.out mb hSm;have Y0 := Lib.hid y0; have Y1 := Lib.hid y1; have Y2 := Lib.hid y2
              have GY := Lib.hid gy;have HJ1 : Hid ((0 : Int) ≤ (j : Int)) := Int.natCast_nonneg j;have HJ2 : Hid ((j : Int) < (r.body.length : Int)) := by show _ < _; omega
              have HJL : Hid (j < 8 ∧ j < r.body.length) := ⟨hlt1, hlt2⟩;have HJS := Lib.hid (take_map_len fitLi r.body (Nat.le_of_lt hlt2));have HJK : Hid (((r.body.take j).map fitLi).length ≤ 1000) := by show _ ≤ _; rw [HJS.out]; omega
              have HJT := Lib.hid (take_map_succ fitLi r.body hlt2);clear hA hya hSm y0 y1 y2 gy hcap3;generalize r.body[j] = y at *;clear hlt1 hlt2;go_wp2_with fail
              refine wp_region_factsP (by rfl) 202 (by rfl) (by kernel_rfl) 9 (fun q => q == 0 || q == 1 || q == 2 || q == 3 || q == 4 || q == 5 || q == 6 || q == 7 || q == 8) (by kernel_rfl) (FB [.e (.pointer (some ⟨k10, 5, none⟩)), .e bv, .e (.pointer (some ⟨k9, 5, none⟩)), .e (.slice (some ⟨mb, mo, none⟩) r.body.length yc), .e (.int .i64 (j : Int)), .e (.pointer (some ⟨mb, mo + j * 3, none⟩)), .e (.agg #[.int .i64 y.kind, .string y.name, .slice za y.args.length zc]), .p (MadeL wr.heap.size (fitLi y)), .p (RowL wr.heap.size (fitLi y)), .t (fun wz vz => ∃ a cap, vz = .slice a (j + 1) cap ∧ MineK kdLi wz w6.heap.size (((r.body.take j).map fitLi) ++ [fitLi y]) vz), .e (.pointer (some ⟨k10, 5, none⟩))]) (fun ph w' => if ph = true then Aft wr w6.heap.size bv w' else Below wr.heap.size wr w') (Below.drew (Below.refl _ _)) ⟨?s0, ?s1, ?s2, ?s3, ?s4, ?s5, ?s6, ?s7, ?s8, ?s9, ?s10, trivial⟩ (by rfl) ?last
              case s0 =>
               intro a w' hoff hg hdep K hK;replace hg : Below wr.heap.size wr w' := hg;have h10 := off_at hoff 10 (v := .pointer (some ⟨k10, 0, none⟩)) (by kernel_rfl) rfl;rw [if_pos (by rfl)];go_simp;exact hK.out _ _ hg rfl (fun _ _ h => h)
              case s1 =>
               intro a w' hoff hg hdep K hK;replace hg : Below wr.heap.size wr w' := hg;obtain ⟨_, e0, rfl⟩ := hdep 0 _ 138 (by kernel_rfl) rfl rfl;rw [if_pos (by rfl)];obtain ⟨p0, p1, p2, p3, p4, p5⟩ := (XQ.out.on hg).cells; rw [HYA.out] at p5; obtain ⟨o0, o1, o2, o3, o4, o5⟩ := (ORE.out.on hg).cells; have r0 := (hg.cell (p := ⟨mb, mo + j * 3, none⟩) HMB.out).trans Y0.out; have r1 := (hg.cell (p := ⟨mb, mo + j * 3 + 1, none⟩) HMB.out).trans Y1.out; have r2 := (hg.cell (p := ⟨mb, mo + j * 3 + 2, none⟩) HMB.out).trans Y2.out
               go_simp;exact hK.out _ _ hg rfl (fun _ _ h => h)
              case s2 =>
               intro a w' hoff hg hdep K hK;replace hg : Below wr.heap.size wr w' := hg;have h9 := off_at hoff 9 (v := .pointer (some ⟨k9, 0, none⟩)) (by kernel_rfl) rfl;rw [if_pos (by rfl)];go_simp;exact hK.out _ _ hg rfl (fun _ _ h => h)
              case s3 =>
               intro a w' hoff hg hdep K hK;replace hg : Below wr.heap.size wr w' := hg;obtain ⟨_, e2, rfl⟩ := hdep 2 _ 140 (by kernel_rfl) rfl rfl;rw [if_pos (by rfl)];obtain ⟨p0, p1, p2, p3, p4, p5⟩ := (XQ.out.on hg).cells; rw [HYA.out] at p5; obtain ⟨o0, o1, o2, o3, o4, o5⟩ := (ORE.out.on hg).cells; have r0 := (hg.cell (p := ⟨mb, mo + j * 3, none⟩) HMB.out).trans Y0.out; have r1 := (hg.cell (p := ⟨mb, mo + j * 3 + 1, none⟩) HMB.out).trans Y1.out; have r2 := (hg.cell (p := ⟨mb, mo + j * 3 + 2, none⟩) HMB.out).trans Y2.out
               go_simp;exact hK.out _ _ hg rfl (fun _ _ h => h)
              case s4 =>
               intro a w' hoff hg hdep K hK;replace hg : Below wr.heap.size wr w' := hg;have h11 := off_at hoff 11 (v := .int .i64 (j : Int)) (by kernel_rfl) rfl;rw [if_pos (by rfl)];go_simp;exact hK.out _ _ hg rfl (fun _ _ h => h)
              case s5 =>
               intro a w' hoff hg hdep K hK;replace hg : Below wr.heap.size wr w' := hg;obtain ⟨_, e3, rfl⟩ := hdep 3 _ 141 (by kernel_rfl) rfl rfl;obtain ⟨_, e4, rfl⟩ := hdep 4 _ 142 (by kernel_rfl) rfl rfl;rw [if_pos (by rfl)];have hj1 := HJ1.out; have hj2 := HJ2.out
               go_simp;exact hK.out _ _ hg rfl (fun _ _ h => h)
              case s6 =>
               intro a w' hoff hg hdep K hK;replace hg : Below wr.heap.size wr w' := hg;obtain ⟨_, e5, rfl⟩ := hdep 5 _ 143 (by kernel_rfl) rfl rfl;rw [if_pos (by rfl)];obtain ⟨p0, p1, p2, p3, p4, p5⟩ := (XQ.out.on hg).cells; rw [HYA.out] at p5; obtain ⟨o0, o1, o2, o3, o4, o5⟩ := (ORE.out.on hg).cells; have r0 := (hg.cell (p := ⟨mb, mo + j * 3, none⟩) HMB.out).trans Y0.out; have r1 := (hg.cell (p := ⟨mb, mo + j * 3 + 1, none⟩) HMB.out).trans Y1.out; have r2 := (hg.cell (p := ⟨mb, mo + j * 3 + 2, none⟩) HMB.out).trans Y2.out
               go_simp;exact hK.out _ _ hg rfl (fun _ _ h => h)
              case s7 =>
               intro a w' hoff hg hdep K hK;replace hg : Below wr.heap.size wr w' := hg;obtain ⟨_, e6, rfl⟩ := hdep 6 _ 144 (by kernel_rfl) rfl rfl;rw [if_pos (by rfl)];go_simp;refine (fitLi_any y S w' _ _ _ (fun m hm => Nat.lt_of_lt_of_le (HSQ.out m hm) hg.size) (RepLi.on (fun _ h => h) (fun m hm => hg.block m (HSQ.out m hm)) GY.out)).mono ?_;intro e w2' hm;obtain ⟨u, rfl, hp, hb⟩ := MadeL.of (B := wr.heap.size) hg.size hm;exact hK.out _ _ (Below.step hg hb) (fun _ => hp) (fStP ⟨fun _ h => MadeL.stay hb h, fun _ h => RowL.stay hb h, trivial⟩)
              case s8 =>
               intro a w' hoff hg hdep K hK;replace hg : Below wr.heap.size wr w' := hg;obtain ⟨v7, e7, f7⟩ := hdep 7 _ 145 (by kernel_rfl) rfl rfl;have g7 : MadeL wr.heap.size (fitLi y) w' v7 := f7 rfl;obtain ⟨d0, d1, d2, rfl, kv⟩ := g7;rw [if_pos (by rfl)];go_simp;have hb := below_alloc w' (.cells #[d0, d1, d2] 63);have hp := RowL.new hg.size kv;exact hK.out _ _ (Below.step hg hb) (fun _ => hp) (fStP ⟨fun _ h => MadeL.stay hb h, fun _ h => RowL.stay hb h, trivial⟩)
              case s9 =>
               intro a w' hoff hg hdep K hK;replace hg : Below wr.heap.size wr w' := hg;obtain ⟨v1, e1, f1⟩ := hdep 1 _ 139 (by kernel_rfl) rfl rfl;obtain rfl : bv = v1 := Eq.symm f1;obtain ⟨v8, e8, f8⟩ := hdep 8 _ 146 (by kernel_rfl) rfl rfl;have g8 : RowL wr.heap.size (fitLi y) w' v8 := f8 rfl;obtain ⟨b, d0, d1, d2, rfl, hbk, hbb, hrep⟩ := g8;obtain ⟨va, vcap, w8, hrun, hm6, hgr⟩ := own_append (K := kdLi) (y := fitLi y) (c := at3v d0 d1 d2) (HOE.out.stands hg) (Nat.le_trans HWS5.out hg.size) HJK.out hbk rfl (fun i hi => match i, hi with | 0, _ => rfl | 1, _ => rfl | 2, _ => rfl) (RepLi.on (fun b' hb' => ⟨Nat.le_trans HWS5.out hb'.1, hb'.2, fun e => by have := (OwnK.lies HOE.out b' e).2; omega⟩) (fun _ _ => rfl) hrep) 59;refine step_append_by rfl (.tmp 139) (.tmp 146) 59 rfl (by simp [Act.eval, e1]) (by simp [Act.eval, e8]) hrun ?_;have hlk := HJS.out;rw [hlk] at hm6 ⊢;have hp : ∃ a cap, (.slice va (j + 1) vcap : Value) = .slice a (j + 1) cap ∧ MineK kdLi w8 w6.heap.size (((r.body.take j).map fitLi) ++ [fitLi y]) (.slice va (j + 1) vcap) := ⟨_, _, rfl, hm6⟩;have hG2 := Aft.of HOE.out HWS5.out hg hgr;exact hK.out _ _ hG2 (fun _ => hp) (fPass rfl)
              case s10 =>
               intro ph a w' hoff hg hdep K hK;have h10 := off_at hoff 10 (v := .pointer (some ⟨k10, 0, none⟩)) (by kernel_rfl) rfl;rw [if_pos (by rfl)];go_simp;exact hK.out _ _ hg rfl (fun _ _ h => h)
              case last =>
               intro a w' hoff hg hf;replace hg : Aft wr w6.heap.size bv w' := hg;obtain ⟨_, e0, rfl⟩ := hf 0 _ 138 (by decide) rfl rfl;obtain ⟨v1, e1, f1⟩ := hf 1 _ 139 (by decide) rfl rfl;obtain rfl : bv = v1 := Eq.symm f1;obtain ⟨_, e2, rfl⟩ := hf 2 _ 140 (by decide) rfl rfl;obtain ⟨_, e3, rfl⟩ := hf 3 _ 141 (by decide) rfl rfl;obtain ⟨_, e4, rfl⟩ := hf 4 _ 142 (by decide) rfl rfl;obtain ⟨_, e5, rfl⟩ := hf 5 _ 143 (by decide) rfl rfl;obtain ⟨_, e6, rfl⟩ := hf 6 _ 144 (by decide) rfl rfl;obtain ⟨v7, e7, f7⟩ := hf 7 _ 145 (by decide) rfl rfl;obtain ⟨v8, e8, f8⟩ := hf 8 _ 146 (by decide) rfl rfl;obtain ⟨v9, e9, f9⟩ := hf 9 _ 147 (by decide) rfl rfl;have g9 : ∃ a cap, v9 = .slice a (j + 1) cap ∧ MineK kdLi w' w6.heap.size (((r.body.take j).map fitLi) ++ [fitLi y]) v9 := f9 rfl;obtain ⟨_, e10, rfl⟩ := hf 10 _ 148 (by decide) rfl rfl;obtain ⟨va, vcap, rfl, hm6⟩ := g9;have OR6 : Hid (BoxRu w' k10 (.string (relOf r.label)) (.string (relOf r.head)) (.slice aa (fitArgs r.args).length ac) (.string ⟨#[]⟩) (.int .i64 0) bv) := (hg.below.block _ HK6.out).trans ORE.out;obtain ⟨o0, o1, o2, o3, o4, o5⟩ := OR6.out.cells;have z5 := frozen_of_row w' k10 5 _ _ OR6.out;rw [if_pos (by rfl)];rw [hoff.sets [(138, .pointer (some ⟨k10, 5, none⟩)), (139, bv), (140, .pointer (some ⟨k9, 5, none⟩)), (141, .slice (some ⟨mb, mo, none⟩) r.body.length yc), (142, .int .i64 (j : Int)), (143, .pointer (some ⟨mb, mo + j * 3, none⟩)), (144, .agg #[.int .i64 y.kind, .string y.name, .slice za y.args.length zc]), (145, v7), (146, v8), (147, .slice va (j + 1) vcap), (148, .pointer (some ⟨k10, 5, none⟩))] (by kernel_rfl) (by intro p hp; simp only [List.mem_cons, List.not_mem_nil, or_false] at hp; rcases hp with rfl | rfl | rfl | rfl | rfl | rfl | rfl | rfl | rfl | rfl | rfl <;> assumption)];clear hoff hf e0 e1 e2 e3 e4 e5 e6 e7 f7 e8 f8 e9 f9 e10;simp only [List.foldl_cons, List.foldl_nil, List.setIfInBounds_toArray, List.set_cons_zero, List.set_cons_succ]
               go_simp;have HM6 := Lib.hid (hm6.far (p := ⟨k10, 5, none⟩) HK6.out (.slice va (j + 1) vcap));have OB6 : Hid (BoxRu (w'.setCell ⟨k10, 5, none⟩ (.slice va (j + 1) vcap)) k10 (.string (relOf r.label)) (.string (relOf r.head)) (.slice aa (fitArgs r.args).length ac) (.string ⟨#[]⟩) (.int .i64 0) (.slice va (j + 1) vcap)) := heap_setCell_same _ _ _ _ _ _ OR6.out;have HB6 := Lib.hid ((HBQ.out.step (Nat.le_refl _) hg.below).set 5 (.slice va (j + 1) vcap));clear hg hm6 o0 o1 o2 o3 o4 o5 z5;go_wp2_with fail
               go_roundw
               case rel => exact ⟨j + 1, .slice va (j + 1) vcap, by have := HJL.out; omega, by have := HJL.out; omega, (by have := HJL.out; rw [show wrap64 ((j : Int) + 1) = ((j + 1 : Nat) : Int) by unfold wrap64; omega]), by rw [HJT.out]; exact HM6.out, OB6.out, HB6.out⟩
               case measure => exact measure_up HJL.out.1 (by decide)
             ·have HFIN : Hid (((r.body.take j).map fitLi) = (r.body.take 8).map fitLi) := take_map_end fitLi r.body (by omega) HJB.out.1 HJB.out.2
              rw [decide_eq_false hlt];clear hlt;have MAE : Hid (MineX kdTm k10 wr w5.heap.size (fitArgs r.args) (.slice aa (fitArgs r.args).length ac)) := MineX.but HMX.out HBQ.out
              by_cases hb0 : r.body = []
              ·have hlb : Hid (((r.body.take j).map fitLi) = []) := by show _ = _; rw [hb0]; simp
               have hbe : bv = .slice none 0 0 ∨ ∃ a cap, bv = .slice a 0 cap := by
                obtain ⟨a, cap, e⟩ := OwnK.form HOE.out;rw [hlb.out] at e;exact .inr ⟨a, cap, e⟩
               obtain ⟨ba, bc, rfl⟩ : ∃ a cap, bv = .slice a 0 cap := by
                rcases hbe with rfl | h
                ·exact ⟨none, 0, rfl⟩
                ·exact h
               clear hbe;rw [hlb.out] at HOE;obtain ⟨o0, o1, o2, o3, o4, o5⟩ := ORE.out.cells;go_wp2_with fail
               clear o0 o1 o2 o3 o4 o5;refine wp_region_factsP (by rfl) 202 (by rfl) (by kernel_rfl) 5 (fun q => q == 0 || q == 1 || q == 2 || q == 3 || q == 4) (by kernel_rfl) (FB [.e (.pointer (some ⟨k10, 5, none⟩)), .e (.slice ba 0 bc), .e (.agg #[.int .i64 0, .string ⟨#[]⟩, .slice none 0 0]), .p (MadeL wr.heap.size (fitLi ⟨0, ⟨#[]⟩, []⟩)), .p (RowL wr.heap.size (fitLi ⟨0, ⟨#[]⟩, []⟩)), .t (fun wz vz => ∃ a cap, vz = .slice a 1 cap ∧ MineK kdLi wz w6.heap.size [fitLi ⟨0, ⟨#[]⟩, []⟩] vz), .e (.pointer (some ⟨k10, 5, none⟩))]) (fun ph w' => if ph = true then Aft wr w6.heap.size (.slice ba 0 bc) w' else Below wr.heap.size wr w') (Below.drew (Below.refl _ _)) ⟨?s0, ?s1, ?s2, ?s3, ?s4, ?s5, ?s6, trivial⟩ (by rfl) ?last
               case s0 =>
                intro a w' hoff hg hdep K hK;replace hg : Below wr.heap.size wr w' := hg;have h10 := off_at hoff 10 (v := .pointer (some ⟨k10, 0, none⟩)) (by kernel_rfl) rfl;rw [if_pos (by rfl)];go_simp;exact hK.out _ _ hg rfl (fun _ _ h => h)
               case s1 =>
                intro a w' hoff hg hdep K hK;replace hg : Below wr.heap.size wr w' := hg;obtain ⟨_, e0, rfl⟩ := hdep 0 _ 153 (by kernel_rfl) rfl rfl;rw [if_pos (by rfl)];obtain ⟨o0, o1, o2, o3, o4, o5⟩ := (ORE.out.on hg).cells;go_simp;exact hK.out _ _ hg rfl (fun _ _ h => h)
               case s2 =>
                intro a w' hoff hg hdep K hK;replace hg : Below wr.heap.size wr w' := hg;rw [if_pos (by rfl)];go_simp;exact hK.out _ _ hg rfl (fun _ _ h => h)
               case s3 =>
                intro a w' hoff hg hdep K hK;replace hg : Below wr.heap.size wr w' := hg;obtain ⟨_, e2, rfl⟩ := hdep 2 _ 155 (by kernel_rfl) rfl rfl;rw [if_pos (by rfl)];go_simp;refine (fitLi_any ⟨0, ⟨#[]⟩, []⟩ S w' _ _ _ (fun m hm => Nat.lt_of_lt_of_le (Nat.lt_of_lt_of_le (HS6.out m hm) HWS5.out) hg.size) (liZ_rep _ _)).mono ?_;intro e w2' hm;obtain ⟨u, rfl, hp, hb⟩ := MadeL.of (B := wr.heap.size) hg.size hm;exact hK.out _ _ (Below.step hg hb) (fun _ => hp) (fStP ⟨fun _ h => MadeL.stay hb h, fun _ h => RowL.stay hb h, trivial⟩)
               case s4 =>
                intro a w' hoff hg hdep K hK;replace hg : Below wr.heap.size wr w' := hg;obtain ⟨v3, e3, f3⟩ := hdep 3 _ 156 (by kernel_rfl) rfl rfl;have g3 : MadeL wr.heap.size (fitLi ⟨0, ⟨#[]⟩, []⟩) w' v3 := f3 rfl;obtain ⟨d0, d1, d2, rfl, kv⟩ := g3;rw [if_pos (by rfl)];go_simp;have hb := below_alloc w' (.cells #[d0, d1, d2] 63);have hp := RowL.new hg.size kv;exact hK.out _ _ (Below.step hg hb) (fun _ => hp) (fStP ⟨fun _ h => MadeL.stay hb h, fun _ h => RowL.stay hb h, trivial⟩)
               case s5 =>
                intro a w' hoff hg hdep K hK;replace hg : Below wr.heap.size wr w' := hg;obtain ⟨_, e1, rfl⟩ := hdep 1 _ 154 (by kernel_rfl) rfl rfl;obtain ⟨v4, e4, f4⟩ := hdep 4 _ 157 (by kernel_rfl) rfl rfl;have g4 : RowL wr.heap.size (fitLi ⟨0, ⟨#[]⟩, []⟩) w' v4 := f4 rfl;obtain ⟨b, d0, d1, d2, rfl, hbk, hbb, hrep⟩ := g4;obtain ⟨va, vcap, w8, hrun, hm6, hgr⟩ := own_append (K := kdLi) (L := ([] : List Li)) (y := fitLi ⟨0, ⟨#[]⟩, []⟩) (c := at3v d0 d1 d2) (HOE.out.stands hg) (Nat.le_trans HWS5.out hg.size) (by simp) hbk rfl (fun i hi => match i, hi with | 0, _ => rfl | 1, _ => rfl | 2, _ => rfl) (RepLi.on (fun b' hb' => ⟨Nat.le_trans HWS5.out hb'.1, hb'.2, fun e => by have := (OwnK.lies HOE.out b' e).2; omega⟩) (fun _ _ => rfl) hrep) 59;refine step_append_by rfl (.tmp 154) (.tmp 157) 59 rfl (by simp [Act.eval, e1]) (by simp [Act.eval, e4]) hrun ?_;have hp : ∃ a cap, (.slice va (([] : List Li).length + 1) vcap : Value) = .slice a 1 cap ∧ MineK kdLi w8 w6.heap.size [fitLi ⟨0, ⟨#[]⟩, []⟩] (.slice va (([] : List Li).length + 1) vcap) := ⟨_, _, rfl, hm6⟩;have hG2 := Aft.of HOE.out HWS5.out hg hgr;exact hK.out _ _ hG2 (fun _ => hp) (fPass rfl)
               case s6 =>
                intro ph a w' hoff hg hdep K hK;have h10 := off_at hoff 10 (v := .pointer (some ⟨k10, 0, none⟩)) (by kernel_rfl) rfl;rw [if_pos (by rfl)];go_simp;exact hK.out _ _ hg rfl (fun _ _ h => h)
               case last =>
                intro a w' hoff hg hf;replace hg : Aft wr w6.heap.size (.slice ba 0 bc) w' := hg;obtain ⟨_, e0, rfl⟩ := hf 0 _ 153 (by decide) rfl rfl;obtain ⟨_, e1, rfl⟩ := hf 1 _ 154 (by decide) rfl rfl;obtain ⟨_, e2, rfl⟩ := hf 2 _ 155 (by decide) rfl rfl;obtain ⟨v3, e3, f3⟩ := hf 3 _ 156 (by decide) rfl rfl;obtain ⟨v4, e4, f4⟩ := hf 4 _ 157 (by decide) rfl rfl;obtain ⟨v5, e5, f5⟩ := hf 5 _ 158 (by decide) rfl rfl;have g5 : ∃ a cap, v5 = .slice a 1 cap ∧ MineK kdLi w' w6.heap.size [fitLi ⟨0, ⟨#[]⟩, []⟩] v5 := f5 rfl;obtain ⟨_, e6, rfl⟩ := hf 6 _ 159 (by decide) rfl rfl;obtain ⟨va, vcap, rfl, hm6⟩ := g5;have OR6 : Hid (BoxRu w' k10 (.string (relOf r.label)) (.string (relOf r.head)) (.slice aa (fitArgs r.args).length ac) (.string ⟨#[]⟩) (.int .i64 0) (.slice ba 0 bc)) := (hg.below.block _ HK6.out).trans ORE.out;obtain ⟨o0, o1, o2, o3, o4, o5⟩ := OR6.out.cells;have z5 := frozen_of_row w' k10 5 _ _ OR6.out;rw [if_pos (by rfl)];rw [hoff.sets [(153, .pointer (some ⟨k10, 5, none⟩)), (154, .slice ba 0 bc), (155, .agg #[.int .i64 0, .string ⟨#[]⟩, .slice none 0 0]), (156, v3), (157, v4), (158, .slice va 1 vcap), (159, .pointer (some ⟨k10, 5, none⟩))] (by kernel_rfl) (by intro p hp; simp only [List.mem_cons, List.not_mem_nil, or_false] at hp; rcases hp with rfl | rfl | rfl | rfl | rfl | rfl | rfl <;> assumption)];clear hoff hf e0 e1 e2 e3 f3 e4 f4 e5 f5 e6;simp only [List.foldl_cons, List.foldl_nil, List.setIfInBounds_toArray, List.set_cons_zero, List.set_cons_succ]
                go_simp;clear o0 o1 o2 o3 o4 o5 z5;have HFB : Hid ([fitLi ⟨0, ⟨#[]⟩, []⟩] = fitBody r.body) := by show _ = _; rw [hb0, fitBody_none]
                have HLB1 : Hid ((fitBody r.body).length = 1) := by show _ = _; rw [← HFB.out]; rfl
                have mb7 := hm6.far (p := ⟨k10, 5, none⟩) HK6.out (.slice va 1 vcap);have a7 : BoxRu (w'.setCell ⟨k10, 5, none⟩ (.slice va 1 vcap)) k10 (.string (relOf r.label)) (.string (relOf r.head)) (.slice aa (fitArgs r.args).length ac) (.string ⟨#[]⟩) (.int .i64 0) (.slice va 1 vcap) := heap_setCell_same _ _ _ _ _ _ OR6.out;have hbt := (HBQ.out.step (Nat.le_refl _) hg.below).set 5 (.slice va 1 vcap);have H67 : Hid (w6.heap.size ≤ (w'.setCell ⟨k10, 5, none⟩ (.slice va 1 vcap)).heap.size) := hbt.size;have X7 : Hid (BoxRu (w'.setCell ⟨k10, 5, none⟩ (.slice va 1 vcap)) k9 (.string r.label) (.string r.head) (.slice xa r.args.length xc) (.string r.agg) (.int .i64 r.at') (.slice ya r.body.length yc)) := (hbt.block k9 X96.out.lt (by have := HZ9.out; have := HK10.out; omega)).trans X96.out;have MA7 : Hid (MineX kdTm k10 (w'.setCell ⟨k10, 5, none⟩ (.slice va 1 vcap)) w5.heap.size (fitArgs r.args) (.slice aa (fitArgs r.args).length ac)) := MineX.but HMX.out hbt;have B7 : Hid (Below wm.heap.size wm (w'.setCell ⟨k10, 5, none⟩ (.slice va 1 vcap))) := Below.step B9.out (Below.trans B10.out (hbt.below H56.out HK10.out));clear hbt hg hm6 OR6;clear HFIN HOE ORE MAE XQ HWS5 HJB hb0 hlb;generalize (w'.setCell ⟨k10, 5, none⟩ (.slice va 1 vcap)) = w7 at *;rw [HFB.out] at mb7;rw [← HLB1.out] at mb7 a7;have MB7 := Lib.hid mb7; have A7 := Lib.hid a7
                clear HFB HLB1 mb7 a7;generalize va = ba at *;generalize vcap = bc at *;go_upto_region 26 with fail
                obtain ⟨o0, o1, o2, o3, o4, o5⟩ := A7.out.cells;obtain ⟨p0, p1, p2, p3, p4, p5⟩ := X7.out.cells;go_cut [169] from 160 to 169 (fun s wx => s = .bool (decide (1 < (fitArgs r.args).length ∧ pickZ r.at' 2 = 1)) ∧ w7 = wx)
                case first =>
                 by_cases c1 : 1 < (fitArgs r.args).length
                 ·have i1 : decide ((1 : Int) < ((fitArgs r.args).length : Int)) = true := decide_eq_true (by omega)
                  have i1' : (1 : Int) < ((fitArgs r.args).length : Int) := by omega
                  go_wp2_with fail
                  refine (pick4_any r.at' 2 _ HN.out.2.2.2 (by omega) (by omega)).mono ?_;rintro e w' ⟨rfl, rfl⟩
                  by_cases c2 : pickZ r.at' 2 = 1
                  ·have HZ : Hid (decide (1 < (fitArgs r.args).length ∧ pickZ r.at' 2 = 1) = true) := decide_eq_true ⟨c1, c2⟩
                   have hp' : (pickZ r.at' 2 == 1) = true := by simp [c2]
                   go_wp2_with fail
                   go_meet
                   exact ⟨by rw [HZ.out], rfl⟩
                  ·have HZ : Hid (decide (1 < (fitArgs r.args).length ∧ pickZ r.at' 2 = 1) = false) := decide_eq_false (fun h => c2 h.2)
                   have hp' : (pickZ r.at' 2 == 1) = false := by simp [c2]
                   go_wp2_with fail
                   go_meet
                   exact ⟨by rw [HZ.out], rfl⟩
                 ·have i1 : decide ((1 : Int) < ((fitArgs r.args).length : Int)) = false := decide_eq_false (by omega)
                  have i1' : ¬ (1 : Int) < ((fitArgs r.args).length : Int) := by omega
                  have HZ : Hid (decide (1 < (fitArgs r.args).length ∧ pickZ r.at' 2 = 1) = false) := decide_eq_false (fun h => c1 h.1);go_wp2_with fail
                  go_meet
                  exact ⟨by rw [HZ.out], rfl⟩
                case rest =>
                 obtain ⟨rfl, rfl⟩ := hcut;clear o0 o1 o2 o3 o4 o5 p0 p1 p2 p3 p4 p5
                 by_cases hc : 1 < (fitArgs r.args).length ∧ pickZ r.at' 2 = 1
                 ·rw [decide_eq_true hc]
                  obtain ⟨hc1, hc2⟩ := hc;have hpb := pickZ_bd r.at' ((fitArgs r.args).length - 1) (by omega);obtain ⟨i, hi⟩ := Int.eq_ofNat_of_zero_le (show 0 ≤ 1 + pickZ r.at' ((fitArgs r.args).length - 1) by omega);have HFR0 := Lib.hid (fitRu_agg ⟨hc1, hc2⟩ hi);have HI : Hid (1 ≤ i ∧ i < (fitArgs r.args).length) := by show _ ∧ _; omega
                  have HIW : Hid (wrap64 (1 + pickZ r.at' ((fitArgs r.args).length - 1)) = (i : Int)) := by show _ = _; rw [hi]; have := (fitArgs_len r.args).2; unfold wrap64; omega
                  have HIW2 : Hid (IntKind.i64.wrap (1 + pickZ r.at' ((fitArgs r.args).length - 1)) = (i : Int)) := by show _ = _; rw [IntKind.wrap_i64]; have h := HIW.out; unfold wrap64 at h; exact h
                  have HLW : Hid (wrap64 (((fitArgs r.args).length : Int) - 1) = ((fitArgs r.args).length : Int) - 1) := by show _ = _; have := (fitArgs_len r.args).2; unfold wrap64; omega
                  have HI64 : Hid (I64 (((fitArgs r.args).length : Int) - 1)) := by show _; have := (fitArgs_len r.args).2; exact small64 (by omega)
                  have HL1 : Hid (1 ≤ ((fitArgs r.args).length : Int) - 1 ∧ ((fitArgs r.args).length : Int) - 1 ≤ 7) := by show _ ∧ _; have := (fitArgs_len r.args).2; omega
                  clear hc1 hc2 hpb hi;obtain ⟨p0, p1, p2, p3, p4, p5⟩ := (X7.out.on (below_alloc w7 (.cells #[.string ⟨#[109, 105, 110]⟩, .string ⟨#[109, 97, 120]⟩, .string ⟨#[99, 111, 117, 110, 116]⟩] 9))).cells;go_wp2_with fail
                  have b8 := below_alloc w7 (.cells #[.string ⟨#[109, 105, 110]⟩, .string ⟨#[109, 97, 120]⟩, .string ⟨#[99, 111, 117, 110, 116]⟩] 9);have n8 := alloc_new' w7 (.cells #[.string ⟨#[109, 105, 110]⟩, .string ⟨#[109, 97, 120]⟩, .string ⟨#[99, 111, 117, 110, 116]⟩] 9);clear p0 p1 p2 p3 p4 p5;refine (pick4_any r.at' 3 _ HN.out.2.2.2 (by omega) (by omega)).mono ?_;rintro e w' ⟨rfl, rfl⟩;generalize w7.alloc (.cells #[.string ⟨#[109, 105, 110]⟩, .string ⟨#[109, 97, 120]⟩, .string ⟨#[99, 111, 117, 110, 116]⟩] 9) = w8 at *;generalize hbs : w7.heap.size = bs at n8 ⊢;have hpb := pickZ_bd r.at' 3 (by omega);obtain ⟨q, hq⟩ := Int.eq_ofNat_of_zero_le hpb.1;rw [hq, Int.toNat_natCast] at HFR0;rw [hq] at hpb ⊢;have hq3 : q < 3 := by omega
                  have hcq : w8.cell? ⟨bs, q, none⟩ = some (.string (fitAggN q)) := by
                   match q, hq3 with
                   | 0, _ => exact cell_of_block' n8 _ rfl
                   | 1, _ => exact cell_of_block' n8 _ rfl
                   | 2, _ => exact cell_of_block' n8 _ rfl
                  have hq0 : (0 : Int) ≤ (q : Int) := Int.natCast_nonneg q;have hq4 : (q : Int) < 3 := by omega
                  have X8 := Lib.hid (X7.out.on b8); have A8 := Lib.hid (A7.out.on b8); have MA8 := Lib.hid (MA7.out.stands b8); have MB8 := Lib.hid (MB7.out.stands b8); have B8 := Lib.hid (Below.step B7.out b8)
                  have H68 : Hid (w6.heap.size ≤ w8.heap.size) := Nat.le_trans H67.out b8.size;clear n8 b8 hq hpb hbs X7 A7 MA7 MB7 B7 H67;have hne9 : k9 ≠ k10 := by have := HZ9.out; have := HK10.out; omega
                  have Ab : Hid (BoxRu (w8.setCell ⟨k10, 3, none⟩ (.string (fitAggN q))) k10 (.string (relOf r.label)) (.string (relOf r.head)) (.slice aa (fitArgs r.args).length ac) (.string (fitAggN q)) (.int .i64 0) (.slice ba (fitBody r.body).length bc)) := heap_setCell_same _ _ _ _ _ _ A8.out;have Xb : Hid (BoxRu (w8.setCell ⟨k10, 3, none⟩ (.string (fitAggN q))) k9 (.string r.label) (.string r.head) (.slice xa r.args.length xc) (.string r.agg) (.int .i64 r.at') (.slice ya r.body.length yc)) := (Below.heap_setCell _ _ _ _ hne9).trans X8.out;obtain ⟨o0, o1, o2, o3, o4, o5⟩ := A8.out.cells;have z3 := frozen_of_row w8 k10 3 _ _ A8.out;obtain ⟨a0, a1, a2, a3, a4, a5⟩ := Ab.out.cells;obtain ⟨p0, p1, p2, p3, p4, p5⟩ := Xb.out.cells;have hlw := HLW.out;go_wp2_with fail
                  clear hcq hq0 hq4 o0 o1 o2 o3 o4 o5 z3 a0 a1 a2 a3 a4 a5 p0 p1 p2 p3 p4 p5 hlw hne9;have Mb := Lib.hid (MA8.out.set 3 (.string (fitAggN q))); have Lb := Lib.hid (MB8.out.far (p := ⟨k10, 3, none⟩) HK6.out (.string (fitAggN q)))
                  have Bb : Hid (Below wm.heap.size wm (w8.setCell ⟨k10, 3, none⟩ (.string (fitAggN q)))) := Lib.hid (B8.out.setCell (p := ⟨k10, 3, none⟩) (by have := HZ9.out; have := HK10.out; simp; omega) (.string (fitAggN q)));have Hb : Hid (w6.heap.size ≤ (w8.setCell ⟨k10, 3, none⟩ (.string (fitAggN q))).heap.size) := by show _ ≤ _; simp; exact H68.out
                  clear X8 A8 MA8 MB8 B8 H68;generalize (w8.setCell ⟨k10, 3, none⟩ (.string (fitAggN q))) = wb at *;refine (pick4_any r.at' (((fitArgs r.args).length : Int) - 1) _ HN.out.2.2.2 HL1.out.1 (by have := HL1.out; omega)).mono ?_;rintro e w' ⟨rfl, rfl⟩;have hiw := HIW.out; have hiw2 := HIW2.out
                  obtain ⟨o0, o1, o2, o3, o4, o5⟩ := Ab.out.cells;have z4 := frozen_of_row wb k10 4 _ _ Ab.out;go_wp2_with fail
                  clear o0 o1 o2 o3 o4 o5 z4 hiw hiw2;have hne9 : k9 ≠ k10 := by have := HZ9.out; have := HK10.out; omega
                  have Ac : Hid (BoxRu (wb.setCell ⟨k10, 4, none⟩ (.int .i64 (i : Int))) k10 (.string (relOf r.label)) (.string (relOf r.head)) (.slice aa (fitArgs r.args).length ac) (.string (fitAggN q)) (.int .i64 (i : Int)) (.slice ba (fitBody r.body).length bc)) := heap_setCell_same _ _ _ _ _ _ Ab.out;have Xc : Hid (BoxRu (wb.setCell ⟨k10, 4, none⟩ (.int .i64 (i : Int))) k9 (.string r.label) (.string r.head) (.slice xa r.args.length xc) (.string r.agg) (.int .i64 r.at') (.slice ya r.body.length yc)) := (Below.heap_setCell _ _ _ _ hne9).trans Xb.out;have Mc := Lib.hid (Mb.out.set 4 (.int .i64 (i : Int))); have Lc := Lib.hid (Lb.out.far (p := ⟨k10, 4, none⟩) HK6.out (.int .i64 (i : Int)))
                  have Bc : Hid (Below wm.heap.size wm (wb.setCell ⟨k10, 4, none⟩ (.int .i64 (i : Int)))) := Lib.hid (Bb.out.setCell (p := ⟨k10, 4, none⟩) (by have := HZ9.out; have := HK10.out; simp; omega) (.int .i64 (i : Int)));have Hc : Hid (w6.heap.size ≤ (wb.setCell ⟨k10, 4, none⟩ (.int .i64 (i : Int))).heap.size) := by show _ ≤ _; simp; exact Hb.out
                  clear hne9 Xb Ab Mb Lb Bb Hb;generalize (wb.setCell ⟨k10, 4, none⟩ (.int .i64 (i : Int))) = wc at *;obtain ⟨g, cur0, rfl, hbg, hgx, hh0, -⟩ := MineX.row HMX.out (by have := HI.out; omega);have HG6 : Hid (g < w6.heap.size) := (Array.getElem?_eq_some_iff.1 hh0).1;have HGB : Hid (w5.heap.size ≤ g ∧ g ≠ k10) := ⟨hbg, hgx⟩;clear cur0 hh0 hbg hgx;obtain ⟨g', cur, hge, -, -, hh, hcs⟩ := MineX.row Mc.out (by have := HI.out; omega)
                  cases hge
                  have HH := Lib.hid hh; have HCS := Lib.hid hcs
                  clear hh hcs;refine wp_region_factsL (by rfl) 202 (by rfl) (by kernel_rfl) (FA [.e (.pointer (some ⟨k10, 2, none⟩)), .e (.slice (some ⟨g, 0, none⟩) (fitArgs r.args).length ac), .e (.pointer (some ⟨k10, 4, none⟩)), .e (.int .i64 (i : Int)), .e (.pointer (some ⟨k9, 3, none⟩)), .e (.string r.agg), .e (.string (varOf r.agg)), .e (.agg #[.int .i64 1, .string (varOf r.agg), .int .i64 0, .int .i64 0, .string ⟨#[]⟩, .slice none 0 0, .slice none 0 0]), .e (.pointer (some ⟨g, i * 7, none⟩))]) (fun w' => Below wc.heap.size wc w') (Below.drew (Below.refl _ _)) ⟨?s0, ?s1, ?s2, ?s3, ?s4, ?s5, ?s6, ?s7, ?s8, trivial⟩ (by rfl) ?last (by decide)
                  case s0 =>
                   intro a w' hoff hg hdep K hK;have h10 := off_at hoff 10 (v := .pointer (some ⟨k10, 0, none⟩)) (by kernel_rfl) rfl;rw [if_pos (by rfl)];go_simp;exact hK.out _ _ hg rfl (fun _ _ h => h)
                  case s1 =>
                   intro a w' hoff hg hdep K hK;obtain ⟨_, e0, rfl⟩ := hdep 0 _ 186 (by kernel_rfl) rfl rfl;rw [if_pos (by rfl)];obtain ⟨o0, o1, o2, o3, o4, o5⟩ := (Ac.out.on hg).cells; obtain ⟨p0, p1, p2, p3, p4, p5⟩ := (Xc.out.on hg).cells
                   go_simp;exact hK.out _ _ hg rfl (fun _ _ h => h)
                  case s2 =>
                   intro a w' hoff hg hdep K hK;have h10 := off_at hoff 10 (v := .pointer (some ⟨k10, 0, none⟩)) (by kernel_rfl) rfl;rw [if_pos (by rfl)];go_simp;exact hK.out _ _ hg rfl (fun _ _ h => h)
                  case s3 =>
                   intro a w' hoff hg hdep K hK;obtain ⟨_, e2, rfl⟩ := hdep 2 _ 188 (by kernel_rfl) rfl rfl;rw [if_pos (by rfl)];obtain ⟨o0, o1, o2, o3, o4, o5⟩ := (Ac.out.on hg).cells; obtain ⟨p0, p1, p2, p3, p4, p5⟩ := (Xc.out.on hg).cells
                   go_simp;exact hK.out _ _ hg rfl (fun _ _ h => h)
                  case s4 =>
                   intro a w' hoff hg hdep K hK;have h9 := off_at hoff 9 (v := .pointer (some ⟨k9, 0, none⟩)) (by kernel_rfl) rfl;rw [if_pos (by rfl)];go_simp;exact hK.out _ _ hg rfl (fun _ _ h => h)
                  case s5 =>
                   intro a w' hoff hg hdep K hK;obtain ⟨_, e4, rfl⟩ := hdep 4 _ 190 (by kernel_rfl) rfl rfl;rw [if_pos (by rfl)];obtain ⟨o0, o1, o2, o3, o4, o5⟩ := (Ac.out.on hg).cells; obtain ⟨p0, p1, p2, p3, p4, p5⟩ := (Xc.out.on hg).cells
                   go_simp;exact hK.out _ _ hg rfl (fun _ _ h => h)
                  case s6 =>
                   intro a w' hoff hg hdep K hK;obtain ⟨_, e5, rfl⟩ := hdep 5 _ 191 (by kernel_rfl) rfl rfl;rw [if_pos (by rfl)];go_simp;refine (Variable_any r.agg _ HN.out.2.2.1).mono ?_;rintro e w2' ⟨rfl, hb⟩;exact hK.out _ _ (Below.step hg hb) rfl (fSt trivial)
                  case s7 =>
                   intro a w' hoff hg hdep K hK;obtain ⟨_, e6, rfl⟩ := hdep 6 _ 192 (by kernel_rfl) rfl rfl;rw [if_pos (by rfl)];go_simp;exact hK.out _ _ hg rfl (fun _ _ h => h)
                  case s8 =>
                   intro a w' hoff hg hdep K hK;obtain ⟨_, e1, rfl⟩ := hdep 1 _ 187 (by kernel_rfl) rfl rfl;obtain ⟨_, e3, rfl⟩ := hdep 3 _ 189 (by kernel_rfl) rfl rfl;rw [if_pos (by rfl)];have hi1 : (0 : Int) ≤ (i : Int) := Int.natCast_nonneg i;have hi2 : (i : Int) < ((fitArgs r.args).length : Int) := by have := HI.out; omega
                   go_simp;exact hK.out _ _ hg rfl (fun _ _ h => h)
                  case last =>
                   intro a w' hoff hg hf;obtain ⟨_, e0, rfl⟩ := hf 0 _ 186 (by decide) rfl rfl;obtain ⟨_, e1, rfl⟩ := hf 1 _ 187 (by decide) rfl rfl;obtain ⟨_, e2, rfl⟩ := hf 2 _ 188 (by decide) rfl rfl;obtain ⟨_, e3, rfl⟩ := hf 3 _ 189 (by decide) rfl rfl;obtain ⟨_, e4, rfl⟩ := hf 4 _ 190 (by decide) rfl rfl;obtain ⟨_, e5, rfl⟩ := hf 5 _ 191 (by decide) rfl rfl;obtain ⟨_, e6, rfl⟩ := hf 6 _ 192 (by decide) rfl rfl;obtain ⟨_, e7, rfl⟩ := hf 7 _ 193 (by decide) rfl rfl;obtain ⟨_, e8, rfl⟩ := hf 8 _ 194 (by decide) rfl rfl;have HG0 := Lib.hid hg;clear hg;rw [if_pos (by rfl)];rw [hoff.sets [(186, .pointer (some ⟨k10, 2, none⟩)), (187, .slice (some ⟨g, 0, none⟩) (fitArgs r.args).length ac), (188, .pointer (some ⟨k10, 4, none⟩)), (189, .int .i64 (i : Int)), (190, .pointer (some ⟨k9, 3, none⟩)), (191, .string r.agg), (192, .string (varOf r.agg)), (193, .agg #[.int .i64 1, .string (varOf r.agg), .int .i64 0, .int .i64 0, .string ⟨#[]⟩, .slice none 0 0, .slice none 0 0]), (194, .pointer (some ⟨g, i * 7, none⟩))] (by kernel_rfl) (by intro p hp; simp only [List.mem_cons, List.not_mem_nil, or_false] at hp; rcases hp with rfl | rfl | rfl | rfl | rfl | rfl | rfl | rfl | rfl <;> assumption)];clear hoff hf e0 e1 e2 e3 e4 e5 e6 e7 e8;simp only [List.foldl_cons, List.foldl_nil, List.setIfInBounds_toArray, List.set_cons_zero, List.set_cons_succ]
                   have hgl : g < wc.heap.size := Nat.lt_of_lt_of_le HG6.out Hc.out;have hh2 := (HG0.out.block g hgl).trans HH.out;have hil := HI.out; have hcs := HCS.out
                   have hbd : i * 7 + 6 < cur.size := by omega
                   obtain ⟨d0, r0⟩ := row_cell hh2 (i * 7) (by omega);obtain ⟨d1, r1⟩ := row_cell hh2 (i * 7 + 1) (by omega);obtain ⟨d2, r2⟩ := row_cell hh2 (i * 7 + 2) (by omega);obtain ⟨d3, r3⟩ := row_cell hh2 (i * 7 + 3) (by omega);obtain ⟨d4, r4⟩ := row_cell hh2 (i * 7 + 4) (by omega);obtain ⟨d5, r5⟩ := row_cell hh2 (i * 7 + 5) (by omega);obtain ⟨d6, r6⟩ := row_cell hh2 (i * 7 + 6) (by omega);have z0 := frozen_of_row w' g (i * 7) _ _ hh2;have z1 := frozen_of_row w' g (i * 7 + 1) _ _ hh2;have z2 := frozen_of_row w' g (i * 7 + 2) _ _ hh2;have z3 := frozen_of_row w' g (i * 7 + 3) _ _ hh2;have z4 := frozen_of_row w' g (i * 7 + 4) _ _ hh2;have z5 := frozen_of_row w' g (i * 7 + 5) _ _ hh2;have z6 := frozen_of_row w' g (i * 7 + 6) _ _ hh2;clear hh2 hcs hbd hgl;go_simp;clear r0 z0 r1 z1 r2 z2 r3 z3 r4 z4 r5 z5 r6 z6;have MA := Lib.hid (MineX.put (Mc.out.stands HG0.out) hil.2 (varOf r.agg) (Nat.le_trans (varOf_size _) (by decide)));have MB := Lib.hid (MineK.put (Lc.out.stands HG0.out) HG6.out (i * 7) (.int .i64 1) (.string (varOf r.agg)) (.int .i64 0) (.int .i64 0) (.string ⟨#[]⟩) (.slice none 0 0) (.slice none 0 0));have A := Lib.hid (box_put (o := i * 7) (Ac.out.on HG0.out) (fun e => HGB.out.2 e.symm) (.int .i64 1) (.string (varOf r.agg)) (.int .i64 0) (.int .i64 0) (.string ⟨#[]⟩) (.slice none 0 0) (.slice none 0 0));have BW := Lib.hid (put7_below (g := g) (Below.step Bc.out HG0.out) (by have := HGB.out.1; have := HZ9.out; omega) (i * 7) (.int .i64 1) (.string (varOf r.agg)) (.int .i64 0) (.int .i64 0) (.string ⟨#[]⟩) (.slice none 0 0) (.slice none 0 0));have H6W : Hid (w6.heap.size ≤ (put7 w' g (i * 7) (.int .i64 1) (.string (varOf r.agg)) (.int .i64 0) (.int .i64 0) (.string ⟨#[]⟩) (.slice none 0 0) (.slice none 0 0)).heap.size) := by show _ ≤ _; rw [put7_size]; exact Nat.le_trans Hc.out HG0.out.size
                   unfold put7 at MA MB A BW H6W;clear hil HG0;generalize ((((((w'.setCell ⟨g, i * 7, none⟩ (.int .i64 1)).setCell ⟨g, i * 7 + 1, none⟩ (.string (varOf r.agg))).setCell ⟨g, i * 7 + 2, none⟩ (.int .i64 0)).setCell ⟨g, i * 7 + 3, none⟩ (.int .i64 0)).setCell ⟨g, i * 7 + 4, none⟩ (.string ⟨#[]⟩)).setCell ⟨g, i * 7 + 5, none⟩ (.slice none 0 0)).setCell ⟨g, i * 7 + 6, none⟩ (.slice none 0 0) = wd at *;have HFR := HFR0;clear HFR0 Xc Ac Mc Lc Bc Hc HH HCS;have ORQ : Hid (BoxPr wd (w.heap.size + 2) dv fv lv) := OR.out.on BW.out;have h9 := HZ9.out; have h10 := HK10.out; have h56 := H56.out; have hws := HWS.out; have hk6 := HK6.out
                   have h6W : w6.heap.size ≤ wd.heap.size := H6W.out
                   obtain ⟨va, vcap, w8, hrun, hm8, hgr⟩ := own_append (K := kdRu) (y := fitRu r) (c := at6v (.string (relOf r.label)) (.string (relOf r.head)) (.slice (some ⟨g, 0, none⟩) (fitArgs r.args).length ac) (.string (fitAggN q)) (.int .i64 (i : Int)) (.slice ba (fitBody r.body).length bc)) (cs := #[.string (relOf r.label), .string (relOf r.head), .slice (some ⟨g, 0, none⟩) (fitArgs r.args).length ac, .string (fitAggN q), .int .i64 (i : Int), .slice ba (fitBody r.body).length bc]) (ty := 24)
                    ((HO.out.stands BW.out).stands (below_alloc wd (.cells #[.string (relOf r.label), .string (relOf r.head), .slice (some ⟨g, 0, none⟩) (fitArgs r.args).length ac, .string (fitAggN q), .int .i64 (i : Int), .slice ba (fitBody r.body).length bc] 61))) (by simp; omega) HLK.out (alloc_new' wd _) rfl (fun i hi => match i, hi with | 0, _ => rfl | 1, _ => rfl | 2, _ => rfl | 3, _ => rfl | 4, _ => rfl | 5, _ => rfl)
                    (by
                     rw [HFR.out];refine RepRu.on (S := fun m => w5.heap.size ≤ m ∧ m < wd.heap.size) (w := wd) (fun m hm => ⟨by omega, by simp; omega, fun e => by have := (OwnK.lies HO.out m e).2; omega⟩) (fun m hm => Below.heap_alloc _ _ _ hm.2) ?_;refine ⟨rfl, rfl, rfl, rfl, Nat.le_trans (relOf_size _) (by decide), Nat.le_trans (relOf_size _) (by decide), ?_, ?_, ?_, ?_⟩
                     ·exact Nat.le_trans (fitAgg_size q) (by decide)
                     ·exact small64 (n := (i : Int)) (by have := HI.out; have := (fitArgs_len r.args).2; omega)
                     ·exact OwnK.slg MA.out.1 (fun m hm => ⟨hm.1, hm.2.1⟩) (fun m h1 h2 => ⟨h1, h2⟩) (by rw [List.length_set]; exact Nat.le_trans (fitArgs_len r.args).2 (by decide))
                     ·exact MineK.slg MB.out (fun m h1 h2 => ⟨Nat.le_trans h56 h1, h2⟩) (Nat.le_trans (fitBody_len r.body).2 (by decide)))
                   rw [HLL.out] at hrun hm8;have HRUN := Lib.hid hrun;have hA8 : Aft wd w4.heap.size lv w8 := Aft.of (HO.out.stands BW.out) (by omega) (below_alloc wd _) hgr;have OR8 : Hid (BoxPr w8 (w.heap.size + 2) dv fv lv) := (hA8.below.block _ (by have := HSZ4.out; omega)).trans ORQ.out;have HM9 := Lib.hid (hm8.far (p := ⟨w.heap.size + 2, 2, none⟩) (by have := HSZ4.out; simp; omega) (.slice va (k + 1) vcap));have OB9 : Hid (BoxPr (w8.setCell ⟨w.heap.size + 2, 2, none⟩ (.slice va (k + 1) vcap)) (w.heap.size + 2) dv fv (.slice va (k + 1) vcap)) := heap_setCell_same _ _ _ _ _ _ OR8.out;have HB9 := Lib.hid (((HBUT.out.step hws BW.out).step (Nat.le_refl _) hA8.below).set 2 (.slice va (k + 1) vcap));obtain ⟨a0, a1, a2, a3, a4, a5⟩ := A.out.cells;obtain ⟨p0, p1, p2⟩ := ORQ.out.cells;obtain ⟨o0, o1, o2⟩ := OR8.out.cells;have z2 := frozen_of_row w8 (w.heap.size + 2) 2 _ _ OR8.out;clear hrun hm8 hgr hA8 h9 h10 h56 hws hk6 h6W;go_wp2_with (at_builtin; refine wpList_append_by rfl _ _ _ rfl rfl rfl HRUN.out ?_)
                   clear a0 a1 a2 a3 a4 a5 p0 p1 p2 o0 o1 o2 z2;go_roundw
                   case rel => exact ⟨k + 1, .slice va (k + 1) vcap, by have := HKL.out; omega, by have := HKL.out; omega, (by have := HKL.out; rw [show wrap64 ((k : Int) + 1) = ((k + 1 : Nat) : Int) by unfold wrap64; omega]), by rw [HTK.out]; exact HM9.out, OB9.out, HB9.out⟩
                   case measure => exact measure_up HKL.out.1 (by decide)
                 ·rw [decide_eq_false hc]
                  have A := A7; have MA := MA7; have MB := MB7; have BW := B7; have H6W := H67
                  have HFR : Hid (fitRu r = _) := fitRu_plain hc;clear A7 MA7 MB7 B7 H67 X7;have ORQ : Hid (BoxPr w7 (w.heap.size + 2) dv fv lv) := OR.out.on BW.out;have h9 := HZ9.out; have h10 := HK10.out; have h56 := H56.out; have hws := HWS.out; have hk6 := HK6.out
                  have h6W : w6.heap.size ≤ w7.heap.size := H6W.out
                  obtain ⟨va, vcap, w8, hrun, hm8, hgr⟩ := own_append (K := kdRu) (y := fitRu r) (c := at6v (.string (relOf r.label)) (.string (relOf r.head)) (.slice aa (fitArgs r.args).length ac) (.string ⟨#[]⟩) (.int .i64 0) (.slice ba (fitBody r.body).length bc)) (cs := #[.string (relOf r.label), .string (relOf r.head), .slice aa (fitArgs r.args).length ac, .string ⟨#[]⟩, .int .i64 0, .slice ba (fitBody r.body).length bc]) (ty := 24)
                   ((HO.out.stands BW.out).stands (below_alloc w7 (.cells #[.string (relOf r.label), .string (relOf r.head), .slice aa (fitArgs r.args).length ac, .string ⟨#[]⟩, .int .i64 0, .slice ba (fitBody r.body).length bc] 61))) (by simp; omega) HLK.out (alloc_new' w7 _) rfl (fun i hi => match i, hi with | 0, _ => rfl | 1, _ => rfl | 2, _ => rfl | 3, _ => rfl | 4, _ => rfl | 5, _ => rfl)
                   (by
                    rw [HFR.out];refine RepRu.on (S := fun m => w5.heap.size ≤ m ∧ m < w7.heap.size) (w := w7) (fun m hm => ⟨by omega, by simp; omega, fun e => by have := (OwnK.lies HO.out m e).2; omega⟩) (fun m hm => Below.heap_alloc _ _ _ hm.2) ?_;refine ⟨rfl, rfl, rfl, rfl, Nat.le_trans (relOf_size _) (by decide), Nat.le_trans (relOf_size _) (by decide), ?_, ?_, ?_, ?_⟩
                    ·exact Nat.zero_le _
                    ·exact small64 (n := 0) (by omega)
                    ·exact OwnK.slg MA.out.1 (fun m hm => ⟨hm.1, hm.2.1⟩) (fun m h1 h2 => ⟨h1, h2⟩) (Nat.le_trans (fitArgs_len r.args).2 (by decide))
                    ·exact MineK.slg MB.out (fun m h1 h2 => ⟨Nat.le_trans h56 h1, h2⟩) (Nat.le_trans (fitBody_len r.body).2 (by decide)))
                  rw [HLL.out] at hrun hm8;have HRUN := Lib.hid hrun;have hA8 : Aft w7 w4.heap.size lv w8 := Aft.of (HO.out.stands BW.out) (by omega) (below_alloc w7 _) hgr;have OR8 : Hid (BoxPr w8 (w.heap.size + 2) dv fv lv) := (hA8.below.block _ (by have := HSZ4.out; omega)).trans ORQ.out;have HM9 := Lib.hid (hm8.far (p := ⟨w.heap.size + 2, 2, none⟩) (by have := HSZ4.out; simp; omega) (.slice va (k + 1) vcap));have OB9 : Hid (BoxPr (w8.setCell ⟨w.heap.size + 2, 2, none⟩ (.slice va (k + 1) vcap)) (w.heap.size + 2) dv fv (.slice va (k + 1) vcap)) := heap_setCell_same _ _ _ _ _ _ OR8.out;have HB9 := Lib.hid (((HBUT.out.step hws BW.out).step (Nat.le_refl _) hA8.below).set 2 (.slice va (k + 1) vcap));obtain ⟨a0, a1, a2, a3, a4, a5⟩ := A.out.cells;obtain ⟨p0, p1, p2⟩ := ORQ.out.cells;obtain ⟨o0, o1, o2⟩ := OR8.out.cells;have z2 := frozen_of_row w8 (w.heap.size + 2) 2 _ _ OR8.out;clear hrun hm8 hgr hA8 h9 h10 h56 hws hk6 h6W;go_wp2_with (at_builtin; refine wpList_append_by rfl _ _ _ rfl rfl rfl HRUN.out ?_)
                  clear a0 a1 a2 a3 a4 a5 p0 p1 p2 o0 o1 o2 z2;go_roundw
                  case rel => exact ⟨k + 1, .slice va (k + 1) vcap, by have := HKL.out; omega, by have := HKL.out; omega, (by have := HKL.out; rw [show wrap64 ((k : Int) + 1) = ((k + 1 : Nat) : Int) by unfold wrap64; omega]), by rw [HTK.out]; exact HM9.out, OB9.out, HB9.out⟩
                  case measure => exact measure_up HKL.out.1 (by decide)
              ·have hpos : 0 < r.body.length := List.length_pos_iff.2 hb0
               have HFB : Hid (((r.body.take j).map fitLi) = fitBody r.body) := by show _ = _; rw [HFIN.out, fitBody_some hb0]
               obtain ⟨ba, bc, rfl⟩ := OwnK.form HOE.out;have hln := (fitBody_len r.body).1; have hln2 := (fitBody_len r.body).2
               rw [HFB.out] at HOE ORE;have hne : decide (((fitBody r.body).length : Int) = 0) = false := decide_eq_false (by omega);have hne2 : (((fitBody r.body).length : Int) == 0) = false := by simpa using (by omega : ¬ ((fitBody r.body).length : Int) = 0)
               obtain ⟨o0, o1, o2, o3, o4, o5⟩ := ORE.out.cells;go_upto_region 26 with fail
               clear o0 o1 o2 o3 o4 o5 hne hne2 hln hln2 hpos;have X7 := XQ; have A7 := ORE; have MA7 := MAE; have MB7 := HOE
               have H67 := HWS5;have B7 : Hid (Below wm.heap.size wm wr) := Below.step B9.out (Below.trans B10.out (HBQ.out.below H56.out HK10.out));clear HFIN HOE ORE MAE XQ HWS5 HJB HFB hb0;generalize wr = w7 at *;obtain ⟨o0, o1, o2, o3, o4, o5⟩ := A7.out.cells;obtain ⟨p0, p1, p2, p3, p4, p5⟩ := X7.out.cells;go_cut [169] from 160 to 169 (fun s wx => s = .bool (decide (1 < (fitArgs r.args).length ∧ pickZ r.at' 2 = 1)) ∧ w7 = wx)
               case first =>
                by_cases c1 : 1 < (fitArgs r.args).length
                ·have i1 : decide ((1 : Int) < ((fitArgs r.args).length : Int)) = true := decide_eq_true (by omega)
                 have i1' : (1 : Int) < ((fitArgs r.args).length : Int) := by omega
                 go_wp2_with fail
                 refine (pick4_any r.at' 2 _ HN.out.2.2.2 (by omega) (by omega)).mono ?_;rintro e w' ⟨rfl, rfl⟩
                 by_cases c2 : pickZ r.at' 2 = 1
                 ·have HZ : Hid (decide (1 < (fitArgs r.args).length ∧ pickZ r.at' 2 = 1) = true) := decide_eq_true ⟨c1, c2⟩
                  have hp' : (pickZ r.at' 2 == 1) = true := by simp [c2]
                  go_wp2_with fail
                  go_meet
                  exact ⟨by rw [HZ.out], rfl⟩
                 ·have HZ : Hid (decide (1 < (fitArgs r.args).length ∧ pickZ r.at' 2 = 1) = false) := decide_eq_false (fun h => c2 h.2)
                  have hp' : (pickZ r.at' 2 == 1) = false := by simp [c2]
                  go_wp2_with fail
                  go_meet
                  exact ⟨by rw [HZ.out], rfl⟩
                ·have i1 : decide ((1 : Int) < ((fitArgs r.args).length : Int)) = false := decide_eq_false (by omega)
                 have i1' : ¬ (1 : Int) < ((fitArgs r.args).length : Int) := by omega
                 have HZ : Hid (decide (1 < (fitArgs r.args).length ∧ pickZ r.at' 2 = 1) = false) := decide_eq_false (fun h => c1 h.1);go_wp2_with fail
                 go_meet
                 exact ⟨by rw [HZ.out], rfl⟩
               case rest =>
                obtain ⟨rfl, rfl⟩ := hcut;clear o0 o1 o2 o3 o4 o5 p0 p1 p2 p3 p4 p5
                by_cases hc : 1 < (fitArgs r.args).length ∧ pickZ r.at' 2 = 1
                ·rw [decide_eq_true hc]
                 obtain ⟨hc1, hc2⟩ := hc;have hpb := pickZ_bd r.at' ((fitArgs r.args).length - 1) (by omega);obtain ⟨i, hi⟩ := Int.eq_ofNat_of_zero_le (show 0 ≤ 1 + pickZ r.at' ((fitArgs r.args).length - 1) by omega);have HFR0 := Lib.hid (fitRu_agg ⟨hc1, hc2⟩ hi);have HI : Hid (1 ≤ i ∧ i < (fitArgs r.args).length) := by show _ ∧ _; omega
                 have HIW : Hid (wrap64 (1 + pickZ r.at' ((fitArgs r.args).length - 1)) = (i : Int)) := by show _ = _; rw [hi]; have := (fitArgs_len r.args).2; unfold wrap64; omega
                 have HIW2 : Hid (IntKind.i64.wrap (1 + pickZ r.at' ((fitArgs r.args).length - 1)) = (i : Int)) := by show _ = _; rw [IntKind.wrap_i64]; have h := HIW.out; unfold wrap64 at h; exact h
                 have HLW : Hid (wrap64 (((fitArgs r.args).length : Int) - 1) = ((fitArgs r.args).length : Int) - 1) := by show _ = _; have := (fitArgs_len r.args).2; unfold wrap64; omega
                 have HI64 : Hid (I64 (((fitArgs r.args).length : Int) - 1)) := by show _; have := (fitArgs_len r.args).2; exact small64 (by omega)
                 have HL1 : Hid (1 ≤ ((fitArgs r.args).length : Int) - 1 ∧ ((fitArgs r.args).length : Int) - 1 ≤ 7) := by show _ ∧ _; have := (fitArgs_len r.args).2; omega
                 clear hc1 hc2 hpb hi;obtain ⟨p0, p1, p2, p3, p4, p5⟩ := (X7.out.on (below_alloc w7 (.cells #[.string ⟨#[109, 105, 110]⟩, .string ⟨#[109, 97, 120]⟩, .string ⟨#[99, 111, 117, 110, 116]⟩] 9))).cells;go_wp2_with fail
                 have b8 := below_alloc w7 (.cells #[.string ⟨#[109, 105, 110]⟩, .string ⟨#[109, 97, 120]⟩, .string ⟨#[99, 111, 117, 110, 116]⟩] 9);have n8 := alloc_new' w7 (.cells #[.string ⟨#[109, 105, 110]⟩, .string ⟨#[109, 97, 120]⟩, .string ⟨#[99, 111, 117, 110, 116]⟩] 9);clear p0 p1 p2 p3 p4 p5;refine (pick4_any r.at' 3 _ HN.out.2.2.2 (by omega) (by omega)).mono ?_;rintro e w' ⟨rfl, rfl⟩;generalize w7.alloc (.cells #[.string ⟨#[109, 105, 110]⟩, .string ⟨#[109, 97, 120]⟩, .string ⟨#[99, 111, 117, 110, 116]⟩] 9) = w8 at *;generalize hbs : w7.heap.size = bs at n8 ⊢;have hpb := pickZ_bd r.at' 3 (by omega);obtain ⟨q, hq⟩ := Int.eq_ofNat_of_zero_le hpb.1;rw [hq, Int.toNat_natCast] at HFR0;rw [hq] at hpb ⊢;have hq3 : q < 3 := by omega
                 have hcq : w8.cell? ⟨bs, q, none⟩ = some (.string (fitAggN q)) := by
                  match q, hq3 with
                  | 0, _ => exact cell_of_block' n8 _ rfl
                  | 1, _ => exact cell_of_block' n8 _ rfl
                  | 2, _ => exact cell_of_block' n8 _ rfl
                 have hq0 : (0 : Int) ≤ (q : Int) := Int.natCast_nonneg q;have hq4 : (q : Int) < 3 := by omega
                 have X8 := Lib.hid (X7.out.on b8); have A8 := Lib.hid (A7.out.on b8); have MA8 := Lib.hid (MA7.out.stands b8); have MB8 := Lib.hid (MB7.out.stands b8); have B8 := Lib.hid (Below.step B7.out b8)
                 have H68 : Hid (w6.heap.size ≤ w8.heap.size) := Nat.le_trans H67.out b8.size;clear n8 b8 hq hpb hbs X7 A7 MA7 MB7 B7 H67;have hne9 : k9 ≠ k10 := by have := HZ9.out; have := HK10.out; omega
                 have Ab : Hid (BoxRu (w8.setCell ⟨k10, 3, none⟩ (.string (fitAggN q))) k10 (.string (relOf r.label)) (.string (relOf r.head)) (.slice aa (fitArgs r.args).length ac) (.string (fitAggN q)) (.int .i64 0) (.slice ba (fitBody r.body).length bc)) := heap_setCell_same _ _ _ _ _ _ A8.out;have Xb : Hid (BoxRu (w8.setCell ⟨k10, 3, none⟩ (.string (fitAggN q))) k9 (.string r.label) (.string r.head) (.slice xa r.args.length xc) (.string r.agg) (.int .i64 r.at') (.slice ya r.body.length yc)) := (Below.heap_setCell _ _ _ _ hne9).trans X8.out;obtain ⟨o0, o1, o2, o3, o4, o5⟩ := A8.out.cells;have z3 := frozen_of_row w8 k10 3 _ _ A8.out;obtain ⟨a0, a1, a2, a3, a4, a5⟩ := Ab.out.cells;obtain ⟨p0, p1, p2, p3, p4, p5⟩ := Xb.out.cells;have hlw := HLW.out;go_wp2_with fail
                 clear hcq hq0 hq4 o0 o1 o2 o3 o4 o5 z3 a0 a1 a2 a3 a4 a5 p0 p1 p2 p3 p4 p5 hlw hne9;have Mb := Lib.hid (MA8.out.set 3 (.string (fitAggN q))); have Lb := Lib.hid (MB8.out.far (p := ⟨k10, 3, none⟩) HK6.out (.string (fitAggN q)))
                 have Bb : Hid (Below wm.heap.size wm (w8.setCell ⟨k10, 3, none⟩ (.string (fitAggN q)))) := Lib.hid (B8.out.setCell (p := ⟨k10, 3, none⟩) (by have := HZ9.out; have := HK10.out; simp; omega) (.string (fitAggN q)));have Hb : Hid (w6.heap.size ≤ (w8.setCell ⟨k10, 3, none⟩ (.string (fitAggN q))).heap.size) := by show _ ≤ _; simp; exact H68.out
                 clear X8 A8 MA8 MB8 B8 H68;generalize (w8.setCell ⟨k10, 3, none⟩ (.string (fitAggN q))) = wb at *;refine (pick4_any r.at' (((fitArgs r.args).length : Int) - 1) _ HN.out.2.2.2 HL1.out.1 (by have := HL1.out; omega)).mono ?_;rintro e w' ⟨rfl, rfl⟩;have hiw := HIW.out; have hiw2 := HIW2.out
                 obtain ⟨o0, o1, o2, o3, o4, o5⟩ := Ab.out.cells;have z4 := frozen_of_row wb k10 4 _ _ Ab.out;go_wp2_with fail
                 clear o0 o1 o2 o3 o4 o5 z4 hiw hiw2;have hne9 : k9 ≠ k10 := by have := HZ9.out; have := HK10.out; omega
                 have Ac : Hid (BoxRu (wb.setCell ⟨k10, 4, none⟩ (.int .i64 (i : Int))) k10 (.string (relOf r.label)) (.string (relOf r.head)) (.slice aa (fitArgs r.args).length ac) (.string (fitAggN q)) (.int .i64 (i : Int)) (.slice ba (fitBody r.body).length bc)) := heap_setCell_same _ _ _ _ _ _ Ab.out;have Xc : Hid (BoxRu (wb.setCell ⟨k10, 4, none⟩ (.int .i64 (i : Int))) k9 (.string r.label) (.string r.head) (.slice xa r.args.length xc) (.string r.agg) (.int .i64 r.at') (.slice ya r.body.length yc)) := (Below.heap_setCell _ _ _ _ hne9).trans Xb.out;have Mc := Lib.hid (Mb.out.set 4 (.int .i64 (i : Int))); have Lc := Lib.hid (Lb.out.far (p := ⟨k10, 4, none⟩) HK6.out (.int .i64 (i : Int)))
                 have Bc : Hid (Below wm.heap.size wm (wb.setCell ⟨k10, 4, none⟩ (.int .i64 (i : Int)))) := Lib.hid (Bb.out.setCell (p := ⟨k10, 4, none⟩) (by have := HZ9.out; have := HK10.out; simp; omega) (.int .i64 (i : Int)));have Hc : Hid (w6.heap.size ≤ (wb.setCell ⟨k10, 4, none⟩ (.int .i64 (i : Int))).heap.size) := by show _ ≤ _; simp; exact Hb.out
                 clear hne9 Xb Ab Mb Lb Bb Hb;generalize (wb.setCell ⟨k10, 4, none⟩ (.int .i64 (i : Int))) = wc at *;obtain ⟨g, cur0, rfl, hbg, hgx, hh0, -⟩ := MineX.row HMX.out (by have := HI.out; omega);have HG6 : Hid (g < w6.heap.size) := (Array.getElem?_eq_some_iff.1 hh0).1;have HGB : Hid (w5.heap.size ≤ g ∧ g ≠ k10) := ⟨hbg, hgx⟩;clear cur0 hh0 hbg hgx;obtain ⟨g', cur, hge, -, -, hh, hcs⟩ := MineX.row Mc.out (by have := HI.out; omega)
                 cases hge
                 have HH := Lib.hid hh; have HCS := Lib.hid hcs
                 clear hh hcs;refine wp_region_factsL (by rfl) 202 (by rfl) (by kernel_rfl) (FA [.e (.pointer (some ⟨k10, 2, none⟩)), .e (.slice (some ⟨g, 0, none⟩) (fitArgs r.args).length ac), .e (.pointer (some ⟨k10, 4, none⟩)), .e (.int .i64 (i : Int)), .e (.pointer (some ⟨k9, 3, none⟩)), .e (.string r.agg), .e (.string (varOf r.agg)), .e (.agg #[.int .i64 1, .string (varOf r.agg), .int .i64 0, .int .i64 0, .string ⟨#[]⟩, .slice none 0 0, .slice none 0 0]), .e (.pointer (some ⟨g, i * 7, none⟩))]) (fun w' => Below wc.heap.size wc w') (Below.drew (Below.refl _ _)) ⟨?s0, ?s1, ?s2, ?s3, ?s4, ?s5, ?s6, ?s7, ?s8, trivial⟩ (by rfl) ?last (by decide)
                 case s0 =>
                  intro a w' hoff hg hdep K hK;have h10 := off_at hoff 10 (v := .pointer (some ⟨k10, 0, none⟩)) (by kernel_rfl) rfl;rw [if_pos (by rfl)];go_simp;exact hK.out _ _ hg rfl (fun _ _ h => h)
                 case s1 =>
                  intro a w' hoff hg hdep K hK;obtain ⟨_, e0, rfl⟩ := hdep 0 _ 186 (by kernel_rfl) rfl rfl;rw [if_pos (by rfl)];obtain ⟨o0, o1, o2, o3, o4, o5⟩ := (Ac.out.on hg).cells; obtain ⟨p0, p1, p2, p3, p4, p5⟩ := (Xc.out.on hg).cells
                  go_simp;exact hK.out _ _ hg rfl (fun _ _ h => h)
                 case s2 =>
                  intro a w' hoff hg hdep K hK;have h10 := off_at hoff 10 (v := .pointer (some ⟨k10, 0, none⟩)) (by kernel_rfl) rfl;rw [if_pos (by rfl)];go_simp;exact hK.out _ _ hg rfl (fun _ _ h => h)
                 case s3 =>
                  intro a w' hoff hg hdep K hK;obtain ⟨_, e2, rfl⟩ := hdep 2 _ 188 (by kernel_rfl) rfl rfl;rw [if_pos (by rfl)];obtain ⟨o0, o1, o2, o3, o4, o5⟩ := (Ac.out.on hg).cells; obtain ⟨p0, p1, p2, p3, p4, p5⟩ := (Xc.out.on hg).cells
                  go_simp;exact hK.out _ _ hg rfl (fun _ _ h => h)
                 case s4 =>
                  intro a w' hoff hg hdep K hK;have h9 := off_at hoff 9 (v := .pointer (some ⟨k9, 0, none⟩)) (by kernel_rfl) rfl;rw [if_pos (by rfl)];go_simp;exact hK.out _ _ hg rfl (fun _ _ h => h)
                 case s5 =>
                  intro a w' hoff hg hdep K hK;obtain ⟨_, e4, rfl⟩ := hdep 4 _ 190 (by kernel_rfl) rfl rfl;rw [if_pos (by rfl)];obtain ⟨o0, o1, o2, o3, o4, o5⟩ := (Ac.out.on hg).cells; obtain ⟨p0, p1, p2, p3, p4, p5⟩ := (Xc.out.on hg).cells
                  go_simp;exact hK.out _ _ hg rfl (fun _ _ h => h)
                 case s6 =>
                  intro a w' hoff hg hdep K hK;obtain ⟨_, e5, rfl⟩ := hdep 5 _ 191 (by kernel_rfl) rfl rfl;rw [if_pos (by rfl)];go_simp;refine (Variable_any r.agg _ HN.out.2.2.1).mono ?_;rintro e w2' ⟨rfl, hb⟩;exact hK.out _ _ (Below.step hg hb) rfl (fSt trivial)
                 case s7 =>
                  intro a w' hoff hg hdep K hK;obtain ⟨_, e6, rfl⟩ := hdep 6 _ 192 (by kernel_rfl) rfl rfl;rw [if_pos (by rfl)];go_simp;exact hK.out _ _ hg rfl (fun _ _ h => h)
                 case s8 =>
                  intro a w' hoff hg hdep K hK;obtain ⟨_, e1, rfl⟩ := hdep 1 _ 187 (by kernel_rfl) rfl rfl;obtain ⟨_, e3, rfl⟩ := hdep 3 _ 189 (by kernel_rfl) rfl rfl;rw [if_pos (by rfl)];have hi1 : (0 : Int) ≤ (i : Int) := Int.natCast_nonneg i;have hi2 : (i : Int) < ((fitArgs r.args).length : Int) := by have := HI.out; omega
                  go_simp;exact hK.out _ _ hg rfl (fun _ _ h => h)
                 case last =>
                  intro a w' hoff hg hf;obtain ⟨_, e0, rfl⟩ := hf 0 _ 186 (by decide) rfl rfl;obtain ⟨_, e1, rfl⟩ := hf 1 _ 187 (by decide) rfl rfl;obtain ⟨_, e2, rfl⟩ := hf 2 _ 188 (by decide) rfl rfl;obtain ⟨_, e3, rfl⟩ := hf 3 _ 189 (by decide) rfl rfl;obtain ⟨_, e4, rfl⟩ := hf 4 _ 190 (by decide) rfl rfl;obtain ⟨_, e5, rfl⟩ := hf 5 _ 191 (by decide) rfl rfl;obtain ⟨_, e6, rfl⟩ := hf 6 _ 192 (by decide) rfl rfl;obtain ⟨_, e7, rfl⟩ := hf 7 _ 193 (by decide) rfl rfl;obtain ⟨_, e8, rfl⟩ := hf 8 _ 194 (by decide) rfl rfl;have HG0 := Lib.hid hg;clear hg;rw [if_pos (by rfl)];rw [hoff.sets [(186, .pointer (some ⟨k10, 2, none⟩)), (187, .slice (some ⟨g, 0, none⟩) (fitArgs r.args).length ac), (188, .pointer (some ⟨k10, 4, none⟩)), (189, .int .i64 (i : Int)), (190, .pointer (some ⟨k9, 3, none⟩)), (191, .string r.agg), (192, .string (varOf r.agg)), (193, .agg #[.int .i64 1, .string (varOf r.agg), .int .i64 0, .int .i64 0, .string ⟨#[]⟩, .slice none 0 0, .slice none 0 0]), (194, .pointer (some ⟨g, i * 7, none⟩))] (by kernel_rfl) (by intro p hp; simp only [List.mem_cons, List.not_mem_nil, or_false] at hp; rcases hp with rfl | rfl | rfl | rfl | rfl | rfl | rfl | rfl | rfl <;> assumption)];clear hoff hf e0 e1 e2 e3 e4 e5 e6 e7 e8;simp only [List.foldl_cons, List.foldl_nil, List.setIfInBounds_toArray, List.set_cons_zero, List.set_cons_succ]
                  have hgl : g < wc.heap.size := Nat.lt_of_lt_of_le HG6.out Hc.out;have hh2 := (HG0.out.block g hgl).trans HH.out;have hil := HI.out; have hcs := HCS.out
                  have hbd : i * 7 + 6 < cur.size := by omega
                  obtain ⟨d0, r0⟩ := row_cell hh2 (i * 7) (by omega);obtain ⟨d1, r1⟩ := row_cell hh2 (i * 7 + 1) (by omega);obtain ⟨d2, r2⟩ := row_cell hh2 (i * 7 + 2) (by omega);obtain ⟨d3, r3⟩ := row_cell hh2 (i * 7 + 3) (by omega);obtain ⟨d4, r4⟩ := row_cell hh2 (i * 7 + 4) (by omega);obtain ⟨d5, r5⟩ := row_cell hh2 (i * 7 + 5) (by omega);obtain ⟨d6, r6⟩ := row_cell hh2 (i * 7 + 6) (by omega);have z0 := frozen_of_row w' g (i * 7) _ _ hh2;have z1 := frozen_of_row w' g (i * 7 + 1) _ _ hh2;have z2 := frozen_of_row w' g (i * 7 + 2) _ _ hh2;have z3 := frozen_of_row w' g (i * 7 + 3) _ _ hh2;have z4 := frozen_of_row w' g (i * 7 + 4) _ _ hh2;have z5 := frozen_of_row w' g (i * 7 + 5) _ _ hh2;have z6 := frozen_of_row w' g (i * 7 + 6) _ _ hh2;clear hh2 hcs hbd hgl;go_simp;clear r0 z0 r1 z1 r2 z2 r3 z3 r4 z4 r5 z5 r6 z6;have MA := Lib.hid (MineX.put (Mc.out.stands HG0.out) hil.2 (varOf r.agg) (Nat.le_trans (varOf_size _) (by decide)));have MB := Lib.hid (MineK.put (Lc.out.stands HG0.out) HG6.out (i * 7) (.int .i64 1) (.string (varOf r.agg)) (.int .i64 0) (.int .i64 0) (.string ⟨#[]⟩) (.slice none 0 0) (.slice none 0 0));have A := Lib.hid (box_put (o := i * 7) (Ac.out.on HG0.out) (fun e => HGB.out.2 e.symm) (.int .i64 1) (.string (varOf r.agg)) (.int .i64 0) (.int .i64 0) (.string ⟨#[]⟩) (.slice none 0 0) (.slice none 0 0));have BW := Lib.hid (put7_below (g := g) (Below.step Bc.out HG0.out) (by have := HGB.out.1; have := HZ9.out; omega) (i * 7) (.int .i64 1) (.string (varOf r.agg)) (.int .i64 0) (.int .i64 0) (.string ⟨#[]⟩) (.slice none 0 0) (.slice none 0 0));have H6W : Hid (w6.heap.size ≤ (put7 w' g (i * 7) (.int .i64 1) (.string (varOf r.agg)) (.int .i64 0) (.int .i64 0) (.string ⟨#[]⟩) (.slice none 0 0) (.slice none 0 0)).heap.size) := by show _ ≤ _; rw [put7_size]; exact Nat.le_trans Hc.out HG0.out.size
                  unfold put7 at MA MB A BW H6W;clear hil HG0;generalize ((((((w'.setCell ⟨g, i * 7, none⟩ (.int .i64 1)).setCell ⟨g, i * 7 + 1, none⟩ (.string (varOf r.agg))).setCell ⟨g, i * 7 + 2, none⟩ (.int .i64 0)).setCell ⟨g, i * 7 + 3, none⟩ (.int .i64 0)).setCell ⟨g, i * 7 + 4, none⟩ (.string ⟨#[]⟩)).setCell ⟨g, i * 7 + 5, none⟩ (.slice none 0 0)).setCell ⟨g, i * 7 + 6, none⟩ (.slice none 0 0) = wd at *;have HFR := HFR0;clear HFR0 Xc Ac Mc Lc Bc Hc HH HCS;have ORQ : Hid (BoxPr wd (w.heap.size + 2) dv fv lv) := OR.out.on BW.out;have h9 := HZ9.out; have h10 := HK10.out; have h56 := H56.out; have hws := HWS.out; have hk6 := HK6.out
                  have h6W : w6.heap.size ≤ wd.heap.size := H6W.out
                  obtain ⟨va, vcap, w8, hrun, hm8, hgr⟩ := own_append (K := kdRu) (y := fitRu r) (c := at6v (.string (relOf r.label)) (.string (relOf r.head)) (.slice (some ⟨g, 0, none⟩) (fitArgs r.args).length ac) (.string (fitAggN q)) (.int .i64 (i : Int)) (.slice ba (fitBody r.body).length bc)) (cs := #[.string (relOf r.label), .string (relOf r.head), .slice (some ⟨g, 0, none⟩) (fitArgs r.args).length ac, .string (fitAggN q), .int .i64 (i : Int), .slice ba (fitBody r.body).length bc]) (ty := 24)
                   ((HO.out.stands BW.out).stands (below_alloc wd (.cells #[.string (relOf r.label), .string (relOf r.head), .slice (some ⟨g, 0, none⟩) (fitArgs r.args).length ac, .string (fitAggN q), .int .i64 (i : Int), .slice ba (fitBody r.body).length bc] 61))) (by simp; omega) HLK.out (alloc_new' wd _) rfl (fun i hi => match i, hi with | 0, _ => rfl | 1, _ => rfl | 2, _ => rfl | 3, _ => rfl | 4, _ => rfl | 5, _ => rfl)
                   (by
                    rw [HFR.out];refine RepRu.on (S := fun m => w5.heap.size ≤ m ∧ m < wd.heap.size) (w := wd) (fun m hm => ⟨by omega, by simp; omega, fun e => by have := (OwnK.lies HO.out m e).2; omega⟩) (fun m hm => Below.heap_alloc _ _ _ hm.2) ?_;refine ⟨rfl, rfl, rfl, rfl, Nat.le_trans (relOf_size _) (by decide), Nat.le_trans (relOf_size _) (by decide), ?_, ?_, ?_, ?_⟩
                    ·exact Nat.le_trans (fitAgg_size q) (by decide)
                    ·exact small64 (n := (i : Int)) (by have := HI.out; have := (fitArgs_len r.args).2; omega)
                    ·exact OwnK.slg MA.out.1 (fun m hm => ⟨hm.1, hm.2.1⟩) (fun m h1 h2 => ⟨h1, h2⟩) (by rw [List.length_set]; exact Nat.le_trans (fitArgs_len r.args).2 (by decide))
                    ·exact MineK.slg MB.out (fun m h1 h2 => ⟨Nat.le_trans h56 h1, h2⟩) (Nat.le_trans (fitBody_len r.body).2 (by decide)))
                  rw [HLL.out] at hrun hm8;have HRUN := Lib.hid hrun;have hA8 : Aft wd w4.heap.size lv w8 := Aft.of (HO.out.stands BW.out) (by omega) (below_alloc wd _) hgr;have OR8 : Hid (BoxPr w8 (w.heap.size + 2) dv fv lv) := (hA8.below.block _ (by have := HSZ4.out; omega)).trans ORQ.out;have HM9 := Lib.hid (hm8.far (p := ⟨w.heap.size + 2, 2, none⟩) (by have := HSZ4.out; simp; omega) (.slice va (k + 1) vcap));have OB9 : Hid (BoxPr (w8.setCell ⟨w.heap.size + 2, 2, none⟩ (.slice va (k + 1) vcap)) (w.heap.size + 2) dv fv (.slice va (k + 1) vcap)) := heap_setCell_same _ _ _ _ _ _ OR8.out;have HB9 := Lib.hid (((HBUT.out.step hws BW.out).step (Nat.le_refl _) hA8.below).set 2 (.slice va (k + 1) vcap));obtain ⟨a0, a1, a2, a3, a4, a5⟩ := A.out.cells;obtain ⟨p0, p1, p2⟩ := ORQ.out.cells;obtain ⟨o0, o1, o2⟩ := OR8.out.cells;have z2 := frozen_of_row w8 (w.heap.size + 2) 2 _ _ OR8.out;clear hrun hm8 hgr hA8 h9 h10 h56 hws hk6 h6W;go_wp2_with (at_builtin; refine wpList_append_by rfl _ _ _ rfl rfl rfl HRUN.out ?_)
                  clear a0 a1 a2 a3 a4 a5 p0 p1 p2 o0 o1 o2 z2;go_roundw
                  case rel => exact ⟨k + 1, .slice va (k + 1) vcap, by have := HKL.out; omega, by have := HKL.out; omega, (by have := HKL.out; rw [show wrap64 ((k : Int) + 1) = ((k + 1 : Nat) : Int) by unfold wrap64; omega]), by rw [HTK.out]; exact HM9.out, OB9.out, HB9.out⟩
                  case measure => exact measure_up HKL.out.1 (by decide)
                ·rw [decide_eq_false hc]
                 have A := A7; have MA := MA7; have MB := MB7; have BW := B7; have H6W := H67
                 have HFR : Hid (fitRu r = _) := fitRu_plain hc;clear A7 MA7 MB7 B7 H67 X7;have ORQ : Hid (BoxPr w7 (w.heap.size + 2) dv fv lv) := OR.out.on BW.out;have h9 := HZ9.out; have h10 := HK10.out; have h56 := H56.out; have hws := HWS.out; have hk6 := HK6.out
                 have h6W : w6.heap.size ≤ w7.heap.size := H6W.out
                 obtain ⟨va, vcap, w8, hrun, hm8, hgr⟩ := own_append (K := kdRu) (y := fitRu r) (c := at6v (.string (relOf r.label)) (.string (relOf r.head)) (.slice aa (fitArgs r.args).length ac) (.string ⟨#[]⟩) (.int .i64 0) (.slice ba (fitBody r.body).length bc)) (cs := #[.string (relOf r.label), .string (relOf r.head), .slice aa (fitArgs r.args).length ac, .string ⟨#[]⟩, .int .i64 0, .slice ba (fitBody r.body).length bc]) (ty := 24)
                  ((HO.out.stands BW.out).stands (below_alloc w7 (.cells #[.string (relOf r.label), .string (relOf r.head), .slice aa (fitArgs r.args).length ac, .string ⟨#[]⟩, .int .i64 0, .slice ba (fitBody r.body).length bc] 61))) (by simp; omega) HLK.out (alloc_new' w7 _) rfl (fun i hi => match i, hi with | 0, _ => rfl | 1, _ => rfl | 2, _ => rfl | 3, _ => rfl | 4, _ => rfl | 5, _ => rfl)
                  (by
                   rw [HFR.out];refine RepRu.on (S := fun m => w5.heap.size ≤ m ∧ m < w7.heap.size) (w := w7) (fun m hm => ⟨by omega, by simp; omega, fun e => by have := (OwnK.lies HO.out m e).2; omega⟩) (fun m hm => Below.heap_alloc _ _ _ hm.2) ?_;refine ⟨rfl, rfl, rfl, rfl, Nat.le_trans (relOf_size _) (by decide), Nat.le_trans (relOf_size _) (by decide), ?_, ?_, ?_, ?_⟩
                   ·exact Nat.zero_le _
                   ·exact small64 (n := 0) (by omega)
                   ·exact OwnK.slg MA.out.1 (fun m hm => ⟨hm.1, hm.2.1⟩) (fun m h1 h2 => ⟨h1, h2⟩) (Nat.le_trans (fitArgs_len r.args).2 (by decide))
                   ·exact MineK.slg MB.out (fun m h1 h2 => ⟨Nat.le_trans h56 h1, h2⟩) (Nat.le_trans (fitBody_len r.body).2 (by decide)))
                 rw [HLL.out] at hrun hm8;have HRUN := Lib.hid hrun;have hA8 : Aft w7 w4.heap.size lv w8 := Aft.of (HO.out.stands BW.out) (by omega) (below_alloc w7 _) hgr;have OR8 : Hid (BoxPr w8 (w.heap.size + 2) dv fv lv) := (hA8.below.block _ (by have := HSZ4.out; omega)).trans ORQ.out;have HM9 := Lib.hid (hm8.far (p := ⟨w.heap.size + 2, 2, none⟩) (by have := HSZ4.out; simp; omega) (.slice va (k + 1) vcap));have OB9 : Hid (BoxPr (w8.setCell ⟨w.heap.size + 2, 2, none⟩ (.slice va (k + 1) vcap)) (w.heap.size + 2) dv fv (.slice va (k + 1) vcap)) := heap_setCell_same _ _ _ _ _ _ OR8.out;have HB9 := Lib.hid (((HBUT.out.step hws BW.out).step (Nat.le_refl _) hA8.below).set 2 (.slice va (k + 1) vcap));obtain ⟨a0, a1, a2, a3, a4, a5⟩ := A.out.cells;obtain ⟨p0, p1, p2⟩ := ORQ.out.cells;obtain ⟨o0, o1, o2⟩ := OR8.out.cells;have z2 := frozen_of_row w8 (w.heap.size + 2) 2 _ _ OR8.out;clear hrun hm8 hgr hA8 h9 h10 h56 hws hk6 h6W;go_wp2_with (at_builtin; refine wpList_append_by rfl _ _ _ rfl rfl rfl HRUN.out ?_)
                 clear a0 a1 a2 a3 a4 a5 p0 p1 p2 o0 o1 o2 z2;go_roundw
                 case rel => exact ⟨k + 1, .slice va (k + 1) vcap, by have := HKL.out; omega, by have := HKL.out; omega, (by have := HKL.out; rw [show wrap64 ((k : Int) + 1) = ((k + 1 : Nat) : Int) by unfold wrap64; omega]), by rw [HTK.out]; exact HM9.out, OB9.out, HB9.out⟩
                 case measure => exact measure_up HKL.out.1 (by decide)
         ·have HFIN : Hid (((p.rules.take k).map fitRu) = (p.rules.take 64).map fitRu) := take_map_end fitRu p.rules (by omega) HKB.out.1 HKB.out.2
          rw [decide_eq_false hlt];clear hlt;have G5 : Hid (MineK kdRu wr w4.heap.size ((p.rules.take 64).map fitRu) lv) := by show MineK _ _ _ _ _; rw [← HFIN.out]; exact HO.out
          have D5 : Hid (MineK kdDe wr w2.heap.size ((p.decls.take 64).map fitDe) dv) := D4.out.but HBUT.out (by have := HSZ2.out; omega);have F5 : Hid (MineK kdFa wr w3.heap.size ((p.facts.take 64).map fitFa) fv) := F4.out.but HBUT.out (by have := HSZ3.out; omega);have R5 : Hid (BoxPr wr (w.heap.size + 1) (.slice none 0 0) (.slice none 0 0) (.slice none 0 0)) := (HBUT.out.block _ (by have := HSZ4.out; omega) (by omega)).trans R4.out;have HZ : Hid (w.heap.size + 3 ≤ w3.heap.size ∧ w.heap.size + 3 ≤ w4.heap.size ∧ w4.heap.size ≤ wr.heap.size) := by show _ ∧ _ ∧ _; have := HSZ3.out; have := HSZ4.out; have := HWS.out; omega
          obtain ⟨da, dc, rfl⟩ := OwnK.form D5.out;obtain ⟨ea, ec, rfl⟩ := OwnK.form F5.out;obtain ⟨la, lc, rfl⟩ := OwnK.form G5.out;obtain ⟨o0, o1, o2⟩ := OR.out.cells;obtain ⟨r0, r1, r2⟩ := R5.out.cells;have z0 := frozen_of_row wr (w.heap.size + 1) 0 _ _ R5.out; have z1 := frozen_of_row wr (w.heap.size + 1) 1 _ _ R5.out; have z2 := frozen_of_row wr (w.heap.size + 1) 2 _ _ R5.out
          go_wp2_with fail
          clear o0 o1 o2;refine bodyPost_ret (v := .agg #[.slice da ((p.decls.take 64).map fitDe).length dc, .slice ea ((p.facts.take 64).map fitFa).length ec, .slice la ((p.rules.take 64).map fitRu).length lc]) (by simp [results, Tryz.results11, go_sem, r0, r1, r2]) rfl ?_;have h1 := HZ.out; have h2 := HSZ2.out; have h3 := HS34.out
          rw [HE.out];refine ⟨_, _, _, rfl, RepPr.on (S := fun m => w.heap.size + 3 ≤ m ∧ m < wr.heap.size) (w := wr) (fun m hm => ⟨by omega, ?sz⟩) (fun m hm => ?eq) ⟨?pd, ?pf, ?pr⟩, set3_below (b := w.heap.size + 1) HBW.out (by omega) _ _ _⟩
          case sz => show m < (set3 wr (w.heap.size + 1) _ _ _).heap.size; rw [set3_size]; exact hm.2
          case eq => exact set3_other wr (w.heap.size + 1) _ _ _ _ (by omega)
          case pd => exact MineK.slg D5.out (fun m h1 h2 => ⟨by omega, h2⟩) (by simp; omega)
          case pf => exact MineK.slg F5.out (fun m h1 h2 => ⟨by omega, h2⟩) (by simp; omega)
          case pr => exact MineK.slg G5.out (fun m h1 h2 => ⟨by omega, h2⟩) (by simp; omega)
end Go.Proofs.YtjohcnhiblfbnaaGreat
