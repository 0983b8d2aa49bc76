/-
  RefSixRule
-/
import Derived.Test.YtjohcnhiblfbnaaGreatK12
import Derived.Test.YtjohcnhiblfbnaaGreatK16
import Derived.Test.YtjohcnhiblfbnaaGreatK03
import Derived.Deep.CutRange
import Derived.Deep.Cut
namespace Go.Proofs.YtjohcnhiblfbnaaGreat
open Go.RowKit
theorem li_kind {z : Li} (h : liB z = true) : 1 ≤ z.kind := by
 unfold liB at h
 split at h
 ·omega
 ·split at h
  ·omega
  ·split at h
   ·omega
   ·split at h
    ·omega
    ·cases h
theorem li_right {z : Li} (h : liB z = true) : ∀ x ∈ z.args, rightM 8 x = true := by
 unfold liB at h
 split at h
 ·simp only [atomB, Bool.and_eq_true] at h
  exact (listB_bounds h.2.1).2.2
 ·split at h
  ·simp only [atomB, Bool.and_eq_true] at h
   exact (listB_bounds h.2.1).2.2
  ·split at h
   ·simp only [Bool.and_eq_true] at h
    exact (listB_bounds h.2).2.2
   ·split at h
    ·simp only [Bool.and_eq_true] at h
     exact (listB_bounds h.2).2.2
    ·cases h
theorem argNames_le (L : List Tm) : (argNames L).length ≤ L.length := by
 rw [argNames, List.length_map]; exact List.length_filter_le _ _
theorem take_le' {α : Type} (L : List α) (k : Nat) : (L.take k).length ≤ L.length := by rw [List.length_take]; omega
theorem all_vars6 {l : List Tm} (h : ∀ x ∈ l, rightM 8 x = true) : ∀ x ∈ l, Vars6At x ∧ (varsM x).length ≤ 900 :=
 fun x hx => ⟨vars6_any 8 x (Nat.le_refl _) (h x hx), Nat.le_trans (vars_few 8 x (h x hx)).1 (by decide)⟩
set_option maxRecDepth 100000 in
set_option maxHeartbeats 8000000 in
theorem rule6_any (p : Pr) (r : Ru) (S : Nat → Prop) (w : World) (c0 c1 c2 q0 q1 q2 q3 q4 q5 : Value) (hS : ∀ k, S k → k < w.heap.size) (hp : RepPr S w p c0 c1 c2) (hr : RepRu S w r q0 q1 q2 q3 q4 q5) (hru : ruB r = true) :
  Calls Tryz.prog 40 #[.agg #[c0, c1, c2], .agg #[q0, q1, q2, q3, q4, q5]] w fun e w' => e = .returned (.int .i64 (ruleErr p.decls r)) ∧ Below w.heap.size w w' := by
 have HFEW := Lib.hid (ru_few hru)
 have HLK : Hid (∀ z ∈ r.body, 1 ≤ z.kind) := by
  show ∀ z ∈ r.body, 1 ≤ z.kind
  simp only [ruB, Bool.and_eq_true] at hru
  exact fun z hz => li_kind ((listB_bounds hru.2.2.2).2.2 z hz)
 have HRL : Hid (∀ z ∈ r.body, ∀ x ∈ z.args, rightM 8 x = true) := by
  show ∀ z ∈ r.body, ∀ x ∈ z.args, rightM 8 x = true
  simp only [ruB, Bool.and_eq_true] at hru
  exact fun z hz => li_right ((listB_bounds hru.2.2.2).2.2 z hz)
 have HRA : Hid (r.args.length ≤ 8 ∧ ∀ x ∈ r.args, rightM 8 x = true) := by
  show r.args.length ≤ 8 ∧ ∀ x ∈ r.args, rightM 8 x = true
  simp only [ruB, atomB, Bool.and_eq_true] at hru
  have := listB_bounds hru.2.1.2.1;exact ⟨by omega, this.2.2⟩
 have HP := Lib.hid hp; have HR := Lib.hid hr; have HS := Lib.hid hS
 obtain ⟨ma0, ma1, rfl⟩ := SlG.form hp.1;obtain ⟨mf0, mf1, rfl⟩ := SlG.form hp.2.1;obtain ⟨mr0, mr1, rfl⟩ := SlG.form hp.2.2;obtain ⟨xa, xc, ya, yc, rfl, rfl, rfl, rfl, rfl, rfl⟩ := RepRu.form hr;have hlb := SlG.bytes hr.2.2.2.2.2.2.2.2.2;clear hp hr hS;go_enter Tryz.func40, Tryz.ntmps40
 go_upto_region 1 with fail
 have x0 := boxPr_new w (.slice ma0 p.decls.length ma1) (.slice mf0 p.facts.length mf1) (.slice mr0 p.rules.length mr1);have d0 := below_alloc w (.cells #[.slice ma0 p.decls.length ma1, .slice mf0 p.facts.length mf1, .slice mr0 p.rules.length mr1] 26);have s0 := World.size_alloc w (.cells #[.slice ma0 p.decls.length ma1, .slice mf0 p.facts.length mf1, .slice mr0 p.rules.length mr1] 26);generalize w.alloc (.cells #[.slice ma0 p.decls.length ma1, .slice mf0 p.facts.length mf1, .slice mr0 p.rules.length mr1] 26) = w1 at *;have x1 := boxRu_new w1 (.string r.label) (.string r.head) (.slice xa r.args.length xc) (.string r.agg) (.int .i64 r.at') (.slice ya r.body.length yc);have d1 := below_alloc w1 (.cells #[.string r.label, .string r.head, .slice xa r.args.length xc, .string r.agg, .int .i64 r.at', .slice ya r.body.length yc] 61);generalize w1.alloc (.cells #[.string r.label, .string r.head, .slice xa r.args.length xc, .string r.agg, .int .i64 r.at', .slice ya r.body.length yc] 61) = w2 at *;rw [s0] at x1;have HB2 := Lib.hid (Below.step d0 d1);have X0 := Lib.hid (x0.on d1); have X1 := Lib.hid x1
 have HP2 := Lib.hid (RepPr.on (S' := fun k => k < w.heap.size) HS.out (fun k hk => HB2.out.block k (HS.out k hk)) HP.out);have HR2 := Lib.hid (RepRu.on (S' := fun k => k < w.heap.size) HS.out (fun k hk => HB2.out.block k (HS.out k hk)) HR.out);obtain ⟨kr, hkr⟩ : ∃ k, w.heap.size + 1 = k := ⟨_, rfl⟩;have HKR : Hid (w1.heap.size = kr ∧ kr = w.heap.size + 1) := ⟨s0.trans hkr, hkr.symm⟩;rw [hkr] at X1 ⊢;clear hkr x0 x1 d0 d1 s0 HP HR HS;obtain ⟨nb, hnb⟩ : ∃ b, (arityL p.decls r.head != (r.args.length : Int)) = b := ⟨_, rfl⟩;have HNB := Lib.hid hnb;clear hnb;refine wp_region_factsG (by rfl) 108 (by rfl) (by kernel_rfl) (fun _ iz vz => (iz = 0 → vz = .agg #[.slice ma0 p.decls.length ma1, .slice mf0 p.facts.length mf1, .slice mr0 p.rules.length mr1]) ∧ (iz = 1 → vz = .pointer (some ⟨kr, 1, none⟩)) ∧ (iz = 2 → vz = .string r.head) ∧ (iz = 3 → vz = .int .i64 (arityL p.decls r.head)) ∧ (iz = 4 → vz = .pointer (some ⟨kr, 2, none⟩)) ∧ (iz = 5 → vz = .slice xa r.args.length xc) ∧ (iz = 6 → vz = .int .i64 (r.args.length : Int)) ∧ (iz = 7 → vz = .bool nb)) (fun w' => Below w2.heap.size w2 w') (Below.drew (Below.refl _ _)) ⟨?s0, ?s1, ?s2, ?s3, ?s4, ?s5, ?s6, ?s7, trivial⟩ ?fin
 case s0 =>
  intro a w' hoff hg hdep K hK;have h2 := off_at hoff 2 (v := .pointer (some ⟨w.heap.size, 0, none⟩)) (by kernel_rfl) rfl;rw [if_pos (by rfl)];obtain ⟨p0, p1, p2⟩ := (X0.out.on hg).cells; obtain ⟨q0, q1, q2, q3, q4, q5⟩ := (X1.out.on hg).cells
  go_simp;exact hK.out _ _ hg ⟨fun _ => rfl, nn,nn,nn,nn,nn,nn,nn⟩ (fun _ _ h => h)
 case s1 =>
  intro a w' hoff hg hdep K hK;have h3 := off_at hoff 3 (v := .pointer (some ⟨kr, 0, none⟩)) (by kernel_rfl) rfl;rw [if_pos (by rfl)];go_simp;exact hK.out _ _ hg ⟨nn, fun _ => rfl, nn,nn,nn,nn,nn,nn⟩ (fun _ _ h => h)
 case s2 =>
  intro a w' hoff hg hdep K hK;obtain ⟨v1, e1, f1⟩ := hdep 1 _ 15 (by kernel_rfl) rfl rfl;obtain rfl := (f1.2.1 rfl).symm;rw [if_pos (by rfl)];obtain ⟨p0, p1, p2⟩ := (X0.out.on hg).cells; obtain ⟨q0, q1, q2, q3, q4, q5⟩ := (X1.out.on hg).cells
  go_simp;exact hK.out _ _ hg ⟨nn,nn, fun _ => rfl, nn,nn,nn,nn,nn⟩ (fun _ _ h => h)
 case s3 =>
  intro a w' hoff hg hdep K hK;obtain ⟨v0, e0, f0⟩ := hdep 0 _ 14 (by kernel_rfl) rfl rfl;obtain rfl := (f0.1 rfl).symm;obtain ⟨v2, e2, f2⟩ := hdep 2 _ 16 (by kernel_rfl) rfl rfl;obtain rfl := (f2.2.2.1 rfl).symm;rw [if_pos (by rfl)];go_simp;refine (arity6_any p r.head (fun k => k < w.heap.size) _ _ _ _ (fun k hk => Nat.lt_of_lt_of_le hk (Nat.le_trans HB2.out.size hg.size)) (RepPr.on (fun _ h => h) (fun k (hk : k < w.heap.size) => hg.block k (Nat.lt_of_lt_of_le hk HB2.out.size)) HP2.out)).mono ?_;rintro e w5 ⟨rfl, hb⟩;exact hK.out _ _ (Below.step hg hb) ⟨nn,nn,nn, fun _ => rfl, nn,nn,nn,nn⟩ (fun _ _ h => h)
 case s4 =>
  intro a w' hoff hg hdep K hK;have h3 := off_at hoff 3 (v := .pointer (some ⟨kr, 0, none⟩)) (by kernel_rfl) rfl;rw [if_pos (by rfl)];go_simp;exact hK.out _ _ hg ⟨nn,nn,nn,nn, fun _ => rfl, nn,nn,nn⟩ (fun _ _ h => h)
 case s5 =>
  intro a w' hoff hg hdep K hK;obtain ⟨v4, e4, f4⟩ := hdep 4 _ 18 (by kernel_rfl) rfl rfl;obtain rfl := (f4.2.2.2.2.1 rfl).symm;rw [if_pos (by rfl)];obtain ⟨p0, p1, p2⟩ := (X0.out.on hg).cells; obtain ⟨q0, q1, q2, q3, q4, q5⟩ := (X1.out.on hg).cells
  go_simp;exact hK.out _ _ hg ⟨nn,nn,nn,nn,nn, fun _ => rfl, nn,nn⟩ (fun _ _ h => h)
 case s6 =>
  intro a w' hoff hg hdep K hK;obtain ⟨v5, e5, f5⟩ := hdep 5 _ 19 (by kernel_rfl) rfl rfl;obtain rfl := (f5.2.2.2.2.2.1 rfl).symm;rw [if_pos (by rfl)];go_simp;exact hK.out _ _ hg ⟨nn,nn,nn,nn,nn,nn, fun _ => rfl, nn⟩ (fun _ _ h => h)
 case s7 =>
  intro a w' hoff hg hdep K hK;obtain ⟨v3, e3, f3⟩ := hdep 3 _ 17 (by kernel_rfl) rfl rfl;obtain rfl := (f3.2.2.2.1 rfl).symm;obtain ⟨v6, e6, f6⟩ := hdep 6 _ 20 (by kernel_rfl) rfl rfl;obtain rfl := (f6.2.2.2.2.2.2.1 rfl).symm;rw [if_pos (by rfl)];have hnb := HNB.out;go_simp;exact hK.out _ _ hg ⟨nn,nn,nn,nn,nn,nn,nn, fun _ => rfl⟩ (fun _ _ h => h)
 intro a w3 hoff hg hf;obtain ⟨v0, e0, f0⟩ := hf 0 _ 14 rfl rfl;obtain rfl := (f0.1 rfl).symm;obtain ⟨v1, e1, f1⟩ := hf 1 _ 15 rfl rfl;obtain rfl := (f1.2.1 rfl).symm;obtain ⟨v2, e2, f2⟩ := hf 2 _ 16 rfl rfl;obtain rfl := (f2.2.2.1 rfl).symm;obtain ⟨v3, e3, f3⟩ := hf 3 _ 17 rfl rfl;obtain rfl := (f3.2.2.2.1 rfl).symm;obtain ⟨v4, e4, f4⟩ := hf 4 _ 18 rfl rfl;obtain rfl := (f4.2.2.2.2.1 rfl).symm;obtain ⟨v5, e5, f5⟩ := hf 5 _ 19 rfl rfl;obtain rfl := (f5.2.2.2.2.2.1 rfl).symm;obtain ⟨v6, e6, f6⟩ := hf 6 _ 20 rfl rfl;obtain rfl := (f6.2.2.2.2.2.2.1 rfl).symm;obtain ⟨v7, e7, f7⟩ := hf 7 _ 21 rfl rfl;obtain rfl := (f7.2.2.2.2.2.2.2 rfl).symm;rw [hoff.sets [(14, .agg #[.slice ma0 p.decls.length ma1, .slice mf0 p.facts.length mf1, .slice mr0 p.rules.length mr1]), (15, .pointer (some ⟨kr, 1, none⟩)), (16, .string r.head), (17, .int .i64 (arityL p.decls r.head)), (18, .pointer (some ⟨kr, 2, none⟩)), (19, .slice xa r.args.length xc), (20, .int .i64 (r.args.length : Int)), (21, .bool nb)] (by kernel_rfl) (by intro p hp; simp only [List.mem_cons, List.not_mem_nil, or_false] at hp; rcases hp with rfl | rfl | rfl | rfl | rfl | rfl | rfl | rfl <;> assumption)];clear hoff hf e0 f0 e1 f1 e2 f2 e3 f3 e4 f4 e5 f5 e6 f6 e7 f7;simp only [List.foldl_cons, List.foldl_nil, List.setIfInBounds_toArray, List.set_cons_zero, List.set_cons_succ]
 have HB3 := Lib.hid (Below.step HB2.out hg);have X03 := Lib.hid (X0.out.on hg); have X13 := Lib.hid (X1.out.on hg)
 have HP3 := Lib.hid (RepPr.on (fun _ h => h) (fun k (hk : k < w.heap.size) => hg.block k (Nat.lt_of_lt_of_le hk HB2.out.size)) HP2.out);have HR3 := Lib.hid (RepRu.on (fun _ h => h) (fun k (hk : k < w.heap.size) => hg.block k (Nat.lt_of_lt_of_le hk HB2.out.size)) HR2.out);clear hg X0 X1 HP2 HR2 HB2
 cases nb with
 | true =>
  have HF : Hid (ruleErr p.decls r = 60) := by
   show _ = _
   have hc1 : (arityL p.decls r.head == (r.args.length : Int)) = false := by have := HNB.out; rw [bne] at this; simpa using this
   rw [ruleErr, hc1, if_neg (fun h => by cases h.1)]
  go_wp2_with fail
  go_ret
  exact ⟨ret_i HF.out.symm, HB3.out⟩
 | false =>
  have HC1 : Hid ((arityL p.decls r.head == (r.args.length : Int)) = true) := by show _ = _; have := HNB.out; rw [bne] at this; simpa using this
  clear HNB;obtain ⟨q0, q1, q2, q3, q4, q5⟩ := X13.out.cells;go_wp2_with fail
  clear q0 q1 q2 q3 q4 q5;go_loopw [5, 6] (fun iv _ wr => ∃ k : Nat, k ≤ r.body.length ∧ iv = .int .i64 (k : Int) ∧ Hid (r.body.all (bodyLiB p.decls) = (r.body.drop k).all (bodyLiB p.decls)) ∧ Below w3.heap.size w3 wr) (fun iv _ _ => r.body.length - (intOf iv).toNat)
  case atStart => exact ⟨0, Nat.zero_le _, rfl, rfl, Below.refl _ _⟩
  case round =>
   obtain ⟨k, hk, rfl, hrec, hbel⟩ := hrel;have hk8 := HFEW.out.1;have HBR := Lib.hid hbel;have x0 := X03.out.on hbel; have x1 := X13.out.on hbel
   obtain ⟨q0, q1, q2, q3, q4, q5⟩ := x1.cells
   by_cases hl : k < r.body.length
   ·have i1 : decide ((k : Int) < (r.body.length : Int)) = true := decide_eq_true (by omega)
    have i2 : decide (k < r.body.length) = true := decide_eq_true hl;have hA := (RepLis.on (fun _ h => h) (fun j (hj : j < w.heap.size) => hbel.block j (Nat.lt_of_lt_of_le hj HB3.out.size)) HR3.out.2.2.2.2.2.2.2.2.2 : RepLis (fun k => k < w.heap.size) wr r.body (.slice ya r.body.length yc));obtain ⟨-, -, lb, lo, ga, gc, rfl, hSb, g0, g1, g2, g⟩ := RepLis.at hA k hl;have HD := Lib.hid (List.drop_eq_getElem_cons hl);have HKZ := Lib.hid (HLK.out _ (List.getElem_mem hl));have HKL := Lib.hid hl;have hj1 : (0 : Int) ≤ (k : Int) := Int.natCast_nonneg k;have hj2 : (k : Int) < (r.body.length : Int) := by omega
    clear g hSb hA;generalize r.body[k] = z at *;go_upto_region 7 with fail
    have X2 := Lib.hid (boxLi_new wr (.int .i64 z.kind) (.string z.name) (.slice ga z.args.length gc));have da := below_alloc wr (.cells #[.int .i64 z.kind, .string z.name, .slice ga z.args.length gc] 63);have XA0 := Lib.hid (x0.on da);have HBA := Lib.hid (Below.step hbel da);clear q0 q1 q2 q3 q4 q5 g0 g1 g2 x0 x1 hbel da HBR;generalize wr.alloc (.cells #[.int .i64 z.kind, .string z.name, .slice ga z.args.length gc] 63) = wa at *;obtain ⟨kz, hkz⟩ : ∃ k, wr.heap.size = k := ⟨_, rfl⟩;rw [hkz] at X2 ⊢;clear hkz;have HBW : Hid (Below w.heap.size w wa) := Below.step HB3.out HBA.out;have HPA := Lib.hid (RepPr.on (fun _ h => h) (fun k (hk : k < w.heap.size) => HBA.out.block k (Nat.lt_of_lt_of_le hk HB3.out.size)) HP3.out)
    by_cases hkd : z.kind ≤ 2
    ·have HLB : Hid (bodyLiB p.decls z = (arityL p.decls z.name == (z.args.length : Int))) := by show _ = _; have := HKZ.out; rw [bodyLiB, if_pos (by omega)]
     have HKD : Hid (decide (z.kind ≤ 2) = true) := decide_eq_true hkd;clear hkd;obtain ⟨mb, hmb⟩ : ∃ b, (arityL p.decls z.name != (z.args.length : Int)) = b := ⟨_, rfl⟩;have HMB := Lib.hid hmb;clear hmb;refine wp_region_factsG (by rfl) 108 (by rfl) (by kernel_rfl) (fun _ iz vz => (iz = 0 → vz = .pointer (some ⟨kz, 0, none⟩)) ∧ (iz = 1 → vz = .int .i64 z.kind) ∧ (iz = 2 → vz = .bool true) ∧ (iz = 3 → vz = .bool true) ∧ (iz = 4 → vz = .agg #[.slice ma0 p.decls.length ma1, .slice mf0 p.facts.length mf1, .slice mr0 p.rules.length mr1]) ∧ (iz = 5 → vz = .pointer (some ⟨kz, 1, none⟩)) ∧ (iz = 6 → vz = .string z.name) ∧ (iz = 7 → vz = .int .i64 (arityL p.decls z.name)) ∧ (iz = 8 → vz = .pointer (some ⟨kz, 2, none⟩)) ∧ (iz = 9 → vz = .slice ga z.args.length gc) ∧ (iz = 10 → vz = .int .i64 (z.args.length : Int)) ∧ (iz = 11 → vz = .bool mb) ∧ (iz = 12 → vz = .bool mb)) (fun w' => Below wa.heap.size wa w') (Below.drew (Below.refl _ _)) ⟨?ras0, ?ras1, ?ras2, ?ras3, ?ras4, ?ras5, ?ras6, ?ras7, ?ras8, ?ras9, ?ras10, ?ras11, ?ras12, trivial⟩ ?rafin
     case ras0 =>
      intro a w' hoff hg hdep K hK;have h6 := off_at hoff 6 (v := .pointer (some ⟨kz, 0, none⟩)) (by kernel_rfl) rfl;rw [if_pos (by rfl)];go_simp;exact hK.out _ _ hg ⟨fun _ => rfl, nn,nn,nn,nn,nn,nn,nn,nn,nn,nn,nn,nn⟩ (fun _ _ h => h)
     case ras1 =>
      intro a w' hoff hg hdep K hK;obtain ⟨v0, e0, f0⟩ := hdep 0 _ 34 (by kernel_rfl) rfl rfl;obtain rfl := (f0.1 rfl).symm;rw [if_pos (by rfl)];obtain ⟨p0, p1, p2⟩ := (XA0.out.on hg).cells; obtain ⟨e0, e1, e2⟩ := (X2.out.on hg).cells
      go_simp;exact hK.out _ _ hg ⟨nn, fun _ => rfl, nn,nn,nn,nn,nn,nn,nn,nn,nn,nn,nn⟩ (fun _ _ h => h)
     case ras2 =>
      intro a w' hoff hg hdep K hK;obtain ⟨v1, e1, f1⟩ := hdep 1 _ 35 (by kernel_rfl) rfl rfl;obtain rfl := (f1.2.1 rfl).symm;rw [if_pos (by rfl)];have hkd := HKD.out;go_simp;exact hK.out _ _ hg ⟨nn,nn, fun _ => rfl, nn,nn,nn,nn,nn,nn,nn,nn,nn,nn⟩ (fun _ _ h => h)
     case ras3 =>
      intro a w' hoff hg hdep K hK;obtain ⟨v2, e2, f2⟩ := hdep 2 _ 36 (by kernel_rfl) rfl rfl;obtain rfl := (f2.2.2.1 rfl).symm;rw [if_pos (by rfl)];go_simp;exact hK.out _ _ hg ⟨nn,nn,nn, fun _ => rfl, nn,nn,nn,nn,nn,nn,nn,nn,nn⟩ (fun _ _ h => h)
     case ras4 =>
      intro a w' hoff hg hdep K hK;have h2 := off_at hoff 2 (v := .pointer (some ⟨w.heap.size, 0, none⟩)) (by kernel_rfl) rfl;obtain ⟨v3, e3, f3⟩ := hdep 3 _ 37 (by kernel_rfl) rfl rfl;obtain rfl := (f3.2.2.2.1 rfl).symm;rw [if_pos (by simp [Region.wanted, yielded, e3])];obtain ⟨p0, p1, p2⟩ := (XA0.out.on hg).cells; obtain ⟨e0, e1, e2⟩ := (X2.out.on hg).cells
      go_simp;exact hK.out _ _ hg ⟨nn,nn,nn,nn, fun _ => rfl, nn,nn,nn,nn,nn,nn,nn,nn⟩ (fun _ _ h => h)
     case ras5 =>
      intro a w' hoff hg hdep K hK;have h6 := off_at hoff 6 (v := .pointer (some ⟨kz, 0, none⟩)) (by kernel_rfl) rfl;obtain ⟨v3, e3, f3⟩ := hdep 3 _ 37 (by kernel_rfl) rfl rfl;obtain rfl := (f3.2.2.2.1 rfl).symm;rw [if_pos (by simp [Region.wanted, yielded, e3])];go_simp;exact hK.out _ _ hg ⟨nn,nn,nn,nn,nn, fun _ => rfl, nn,nn,nn,nn,nn,nn,nn⟩ (fun _ _ h => h)
     case ras6 =>
      intro a w' hoff hg hdep K hK;obtain ⟨v5, e5, f5⟩ := hdep 5 _ 39 (by kernel_rfl) rfl rfl;obtain rfl := (f5.2.2.2.2.2.1 rfl).symm;obtain ⟨v3, e3, f3⟩ := hdep 3 _ 37 (by kernel_rfl) rfl rfl;obtain rfl := (f3.2.2.2.1 rfl).symm;rw [if_pos (by simp [Region.wanted, yielded, e3])];obtain ⟨p0, p1, p2⟩ := (XA0.out.on hg).cells; obtain ⟨e0, e1, e2⟩ := (X2.out.on hg).cells
      go_simp;exact hK.out _ _ hg ⟨nn,nn,nn,nn,nn,nn, fun _ => rfl, nn,nn,nn,nn,nn,nn⟩ (fun _ _ h => h)
     case ras7 =>
      intro a w' hoff hg hdep K hK;obtain ⟨v4, e4, f4⟩ := hdep 4 _ 38 (by kernel_rfl) rfl rfl;obtain rfl := (f4.2.2.2.2.1 rfl).symm;obtain ⟨v6, e6, f6⟩ := hdep 6 _ 40 (by kernel_rfl) rfl rfl;obtain rfl := (f6.2.2.2.2.2.2.1 rfl).symm;obtain ⟨v3, e3, f3⟩ := hdep 3 _ 37 (by kernel_rfl) rfl rfl;obtain rfl := (f3.2.2.2.1 rfl).symm;rw [if_pos (by simp [Region.wanted, yielded, e3])];go_simp;refine (arity6_any p z.name (fun k => k < w.heap.size) _ _ _ _ (fun k hk => Nat.lt_of_lt_of_le hk (Nat.le_trans HBW.out.size hg.size)) (RepPr.on (fun _ h => h) (fun k (hk : k < w.heap.size) => hg.block k (Nat.lt_of_lt_of_le hk HBW.out.size)) HPA.out)).mono ?_;rintro e w5 ⟨rfl, hb⟩;exact hK.out _ _ (Below.step hg hb) ⟨nn,nn,nn,nn,nn,nn,nn, fun _ => rfl, nn,nn,nn,nn,nn⟩ (fun _ _ h => h)
     case ras8 =>
      intro a w' hoff hg hdep K hK;have h6 := off_at hoff 6 (v := .pointer (some ⟨kz, 0, none⟩)) (by kernel_rfl) rfl;obtain ⟨v3, e3, f3⟩ := hdep 3 _ 37 (by kernel_rfl) rfl rfl;obtain rfl := (f3.2.2.2.1 rfl).symm;rw [if_pos (by simp [Region.wanted, yielded, e3])];go_simp;exact hK.out _ _ hg ⟨nn,nn,nn,nn,nn,nn,nn,nn, fun _ => rfl, nn,nn,nn,nn⟩ (fun _ _ h => h)
     case ras9 =>
      intro a w' hoff hg hdep K hK;obtain ⟨v8, e8, f8⟩ := hdep 8 _ 42 (by kernel_rfl) rfl rfl;obtain rfl := (f8.2.2.2.2.2.2.2.2.1 rfl).symm;obtain ⟨v3, e3, f3⟩ := hdep 3 _ 37 (by kernel_rfl) rfl rfl;obtain rfl := (f3.2.2.2.1 rfl).symm;rw [if_pos (by simp [Region.wanted, yielded, e3])];obtain ⟨p0, p1, p2⟩ := (XA0.out.on hg).cells; obtain ⟨e0, e1, e2⟩ := (X2.out.on hg).cells
      go_simp;exact hK.out _ _ hg ⟨nn,nn,nn,nn,nn,nn,nn,nn,nn, fun _ => rfl, nn,nn,nn⟩ (fun _ _ h => h)
     case ras10 =>
      intro a w' hoff hg hdep K hK;obtain ⟨v9, e9, f9⟩ := hdep 9 _ 43 (by kernel_rfl) rfl rfl;obtain rfl := (f9.2.2.2.2.2.2.2.2.2.1 rfl).symm;obtain ⟨v3, e3, f3⟩ := hdep 3 _ 37 (by kernel_rfl) rfl rfl;obtain rfl := (f3.2.2.2.1 rfl).symm;rw [if_pos (by simp [Region.wanted, yielded, e3])];go_simp;exact hK.out _ _ hg ⟨nn,nn,nn,nn,nn,nn,nn,nn,nn,nn, fun _ => rfl, nn,nn⟩ (fun _ _ h => h)
     case ras11 =>
      intro a w' hoff hg hdep K hK;obtain ⟨v7, e7, f7⟩ := hdep 7 _ 41 (by kernel_rfl) rfl rfl;obtain rfl := (f7.2.2.2.2.2.2.2.1 rfl).symm;obtain ⟨v10, e10, f10⟩ := hdep 10 _ 44 (by kernel_rfl) rfl rfl;obtain rfl := (f10.2.2.2.2.2.2.2.2.2.2.1 rfl).symm;obtain ⟨v3, e3, f3⟩ := hdep 3 _ 37 (by kernel_rfl) rfl rfl;obtain rfl := (f3.2.2.2.1 rfl).symm;rw [if_pos (by simp [Region.wanted, yielded, e3])];have hmb := HMB.out;go_simp;exact hK.out _ _ hg ⟨nn,nn,nn,nn,nn,nn,nn,nn,nn,nn,nn, fun _ => rfl, nn⟩ (fun _ _ h => h)
     case ras12 =>
      intro a w' hoff hg hdep K hK;obtain ⟨v3, e3, f3⟩ := hdep 3 _ 37 (by kernel_rfl) rfl rfl;obtain rfl := (f3.2.2.2.1 rfl).symm;obtain ⟨v11, e11, f11⟩ := hdep 11 _ 45 (by kernel_rfl) rfl rfl;obtain rfl := (f11.2.2.2.2.2.2.2.2.2.2.2.1 rfl).symm;rw [if_pos (by rfl)];go_simp;exact hK.out _ _ hg ⟨nn,nn,nn,nn,nn,nn,nn,nn,nn,nn,nn,nn, fun _ => rfl⟩ (fun _ _ h => h)
     intro a w9 hoff hg hf;obtain ⟨v0, e0, f0⟩ := hf 0 _ 34 rfl rfl;obtain rfl := (f0.1 rfl).symm;obtain ⟨v1, e1, f1⟩ := hf 1 _ 35 rfl rfl;obtain rfl := (f1.2.1 rfl).symm;obtain ⟨v2, e2, f2⟩ := hf 2 _ 36 rfl rfl;obtain rfl := (f2.2.2.1 rfl).symm;obtain ⟨v3, e3, f3⟩ := hf 3 _ 37 rfl rfl;obtain rfl := (f3.2.2.2.1 rfl).symm;obtain ⟨v4, e4, f4⟩ := hf 4 _ 38 rfl rfl;obtain rfl := (f4.2.2.2.2.1 rfl).symm;obtain ⟨v5, e5, f5⟩ := hf 5 _ 39 rfl rfl;obtain rfl := (f5.2.2.2.2.2.1 rfl).symm;obtain ⟨v6, e6, f6⟩ := hf 6 _ 40 rfl rfl;obtain rfl := (f6.2.2.2.2.2.2.1 rfl).symm;obtain ⟨v7, e7, f7⟩ := hf 7 _ 41 rfl rfl;obtain rfl := (f7.2.2.2.2.2.2.2.1 rfl).symm;obtain ⟨v8, e8, f8⟩ := hf 8 _ 42 rfl rfl;obtain rfl := (f8.2.2.2.2.2.2.2.2.1 rfl).symm;obtain ⟨v9, e9, f9⟩ := hf 9 _ 43 rfl rfl;obtain rfl := (f9.2.2.2.2.2.2.2.2.2.1 rfl).symm;obtain ⟨v10, e10, f10⟩ := hf 10 _ 44 rfl rfl;obtain rfl := (f10.2.2.2.2.2.2.2.2.2.2.1 rfl).symm;obtain ⟨v11, e11, f11⟩ := hf 11 _ 45 rfl rfl;obtain rfl := (f11.2.2.2.2.2.2.2.2.2.2.2.1 rfl).symm;obtain ⟨v12, e12, f12⟩ := hf 12 _ 46 rfl rfl;obtain rfl := (f12.2.2.2.2.2.2.2.2.2.2.2.2 rfl).symm;rw [hoff.sets [(34, .pointer (some ⟨kz, 0, none⟩)), (35, .int .i64 z.kind), (36, .bool true), (37, .bool true), (38, .agg #[.slice ma0 p.decls.length ma1, .slice mf0 p.facts.length mf1, .slice mr0 p.rules.length mr1]), (39, .pointer (some ⟨kz, 1, none⟩)), (40, .string z.name), (41, .int .i64 (arityL p.decls z.name)), (42, .pointer (some ⟨kz, 2, none⟩)), (43, .slice ga z.args.length gc), (44, .int .i64 (z.args.length : Int)), (45, .bool mb), (46, .bool mb)] (by kernel_rfl) (by intro p hp; simp only [List.mem_cons, List.not_mem_nil, or_false] at hp; rcases hp with rfl | rfl | rfl | rfl | rfl | rfl | rfl | rfl | rfl | rfl | rfl | rfl | rfl <;> assumption)];clear hoff hf e0 f0 e1 f1 e2 f2 e3 f3 e4 f4 e5 f5 e6 f6 e7 f7 e8 f8 e9 f9 e10 f10 e11 f11 e12 f12;simp only [List.foldl_cons, List.foldl_nil, List.setIfInBounds_toArray, List.set_cons_zero, List.set_cons_succ]
     have HB4 := Lib.hid (Below.step HBA.out hg);clear hg
     cases mb with
     | true =>
      have HF : Hid (ruleErr p.decls r = 60) := by
       show _ = _
       have hc1 : (arityL p.decls z.name == (z.args.length : Int)) = false := by have := HMB.out; rw [bne] at this; simpa using this
       rw [ruleErr, hrec.out, HD.out, List.all_cons, HLB.out, hc1, if_neg (fun h => by cases h.2)]
      go_wp2_with fail
      go_ret
      exact ⟨ret_i HF.out.symm, Below.step HB3.out HB4.out⟩
     | false =>
      have HF : Hid (r.body.all (bodyLiB p.decls) = (r.body.drop (k + 1)).all (bodyLiB p.decls)) := by
       show _ = _
       have hc1 : (arityL p.decls z.name == (z.args.length : Int)) = true := by have := HMB.out; rw [bne] at this; simpa using this
       rw [hrec.out, HD.out, List.all_cons, HLB.out, hc1]; rfl
      go_wp2_with fail
      go_roundw
      case rel => exact ⟨k + 1, HKL.out, by go_num, HF, HB4.out⟩
      case measure => have := HKL.out; simp [intOf]; omega
    ·have HF : Hid (r.body.all (bodyLiB p.decls) = (r.body.drop (k + 1)).all (bodyLiB p.decls)) := by show _ = _; rw [hrec.out, HD.out, List.all_cons, bodyLiB, if_neg (by omega)]; rfl
     have HKD : Hid (decide (z.kind ≤ 2) = false) := decide_eq_false hkd;clear hkd;refine wp_region_factsG (by rfl) 108 (by rfl) (by kernel_rfl) (fun _ iz vz => (iz = 0 → vz = .pointer (some ⟨kz, 0, none⟩)) ∧ (iz = 1 → vz = .int .i64 z.kind) ∧ (iz = 2 → vz = .bool false) ∧ (iz = 3 → vz = .bool false) ∧ (iz = 12 → vz = .bool false)) (fun w' => Below wa.heap.size wa w') (Below.drew (Below.refl _ _)) ⟨?rbs0, ?rbs1, ?rbs2, ?rbs3, ?rbs4, ?rbs5, ?rbs6, ?rbs7, ?rbs8, ?rbs9, ?rbs10, ?rbs11, ?rbs12, trivial⟩ ?rbfin
     case rbs0 =>
      intro a w' hoff hg hdep K hK;have h6 := off_at hoff 6 (v := .pointer (some ⟨kz, 0, none⟩)) (by kernel_rfl) rfl;rw [if_pos (by rfl)];go_simp;exact hK.out _ _ hg ⟨fun _ => rfl, nn,nn,nn,nn⟩ (fun _ _ h => h)
     case rbs1 =>
      intro a w' hoff hg hdep K hK;obtain ⟨v0, e0, f0⟩ := hdep 0 _ 34 (by kernel_rfl) rfl rfl;obtain rfl := (f0.1 rfl).symm;rw [if_pos (by rfl)];obtain ⟨p0, p1, p2⟩ := (XA0.out.on hg).cells; obtain ⟨e0, e1, e2⟩ := (X2.out.on hg).cells
      go_simp;exact hK.out _ _ hg ⟨nn, fun _ => rfl, nn,nn,nn⟩ (fun _ _ h => h)
     case rbs2 =>
      intro a w' hoff hg hdep K hK;obtain ⟨v1, e1, f1⟩ := hdep 1 _ 35 (by kernel_rfl) rfl rfl;obtain rfl := (f1.2.1 rfl).symm;rw [if_pos (by rfl)];have hkd := HKD.out;go_simp;exact hK.out _ _ hg ⟨nn,nn, fun _ => rfl, nn,nn⟩ (fun _ _ h => h)
     case rbs3 =>
      intro a w' hoff hg hdep K hK;obtain ⟨v2, e2, f2⟩ := hdep 2 _ 36 (by kernel_rfl) rfl rfl;obtain rfl := (f2.2.2.1 rfl).symm;rw [if_pos (by rfl)];go_simp;exact hK.out _ _ hg ⟨nn,nn,nn, fun _ => rfl, nn⟩ (fun _ _ h => h)
     case rbs4 =>
      intro a w' hoff hg hdep K hK;obtain ⟨v3, e3, f3⟩ := hdep 3 _ 37 (by kernel_rfl) rfl rfl;obtain rfl := (f3.2.2.2.1 rfl).symm;rw [if_neg (by simp [Region.wanted, yielded, e3])];exact hK.out _ _ hg ⟨nn,nn,nn,nn,nn⟩ (fun _ _ h => h)
     case rbs5 =>
      intro a w' hoff hg hdep K hK;obtain ⟨v3, e3, f3⟩ := hdep 3 _ 37 (by kernel_rfl) rfl rfl;obtain rfl := (f3.2.2.2.1 rfl).symm;rw [if_neg (by simp [Region.wanted, yielded, e3])];exact hK.out _ _ hg ⟨nn,nn,nn,nn,nn⟩ (fun _ _ h => h)
     case rbs6 =>
      intro a w' hoff hg hdep K hK;obtain ⟨v3, e3, f3⟩ := hdep 3 _ 37 (by kernel_rfl) rfl rfl;obtain rfl := (f3.2.2.2.1 rfl).symm;rw [if_neg (by simp [Region.wanted, yielded, e3])];exact hK.out _ _ hg ⟨nn,nn,nn,nn,nn⟩ (fun _ _ h => h)
     case rbs7 =>
      intro a w' hoff hg hdep K hK;obtain ⟨v3, e3, f3⟩ := hdep 3 _ 37 (by kernel_rfl) rfl rfl;obtain rfl := (f3.2.2.2.1 rfl).symm;rw [if_neg (by simp [Region.wanted, yielded, e3])];exact hK.out _ _ hg ⟨nn,nn,nn,nn,nn⟩ (fun _ _ h => h)
     case rbs8 =>
      intro a w' hoff hg hdep K hK;obtain ⟨v3, e3, f3⟩ := hdep 3 _ 37 (by kernel_rfl) rfl rfl;obtain rfl := (f3.2.2.2.1 rfl).symm;rw [if_neg (by simp [Region.wanted, yielded, e3])];exact hK.out _ _ hg ⟨nn,nn,nn,nn,nn⟩ (fun _ _ h => h)
     case rbs9 =>
      intro a w' hoff hg hdep K hK;obtain ⟨v3, e3, f3⟩ := hdep 3 _ 37 (by kernel_rfl) rfl rfl;obtain rfl := (f3.2.2.2.1 rfl).symm;rw [if_neg (by simp [Region.wanted, yielded, e3])];exact hK.out _ _ hg ⟨nn,nn,nn,nn,nn⟩ (fun _ _ h => h)
     case rbs10 =>
      intro a w' hoff hg hdep K hK;obtain ⟨v3, e3, f3⟩ := hdep 3 _ 37 (by kernel_rfl) rfl rfl;obtain rfl := (f3.2.2.2.1 rfl).symm;rw [if_neg (by simp [Region.wanted, yielded, e3])];exact hK.out _ _ hg ⟨nn,nn,nn,nn,nn⟩ (fun _ _ h => h)
     case rbs11 =>
      intro a w' hoff hg hdep K hK;obtain ⟨v3, e3, f3⟩ := hdep 3 _ 37 (by kernel_rfl) rfl rfl;obtain rfl := (f3.2.2.2.1 rfl).symm;rw [if_neg (by simp [Region.wanted, yielded, e3])];exact hK.out _ _ hg ⟨nn,nn,nn,nn,nn⟩ (fun _ _ h => h)
     case rbs12 =>
      intro a w' hoff hg hdep K hK;obtain ⟨v3, e3, f3⟩ := hdep 3 _ 37 (by kernel_rfl) rfl rfl;obtain rfl := (f3.2.2.2.1 rfl).symm;obtain ⟨v11, e11, f11⟩ := hdep 11 _ 45 (by kernel_rfl) rfl rfl;rw [if_pos (by rfl)];go_simp;exact hK.out _ _ hg ⟨nn,nn,nn,nn, fun _ => rfl⟩ (fun _ _ h => h)
     intro a w9 hoff hg hf;obtain ⟨v0, e0, f0⟩ := hf 0 _ 34 rfl rfl;obtain rfl := (f0.1 rfl).symm;obtain ⟨v1, e1, f1⟩ := hf 1 _ 35 rfl rfl;obtain rfl := (f1.2.1 rfl).symm;obtain ⟨v2, e2, f2⟩ := hf 2 _ 36 rfl rfl;obtain rfl := (f2.2.2.1 rfl).symm;obtain ⟨v3, e3, f3⟩ := hf 3 _ 37 rfl rfl;obtain rfl := (f3.2.2.2.1 rfl).symm;obtain ⟨v4, e4, f4⟩ := hf 4 _ 38 rfl rfl;obtain ⟨v5, e5, f5⟩ := hf 5 _ 39 rfl rfl;obtain ⟨v6, e6, f6⟩ := hf 6 _ 40 rfl rfl;obtain ⟨v7, e7, f7⟩ := hf 7 _ 41 rfl rfl;obtain ⟨v8, e8, f8⟩ := hf 8 _ 42 rfl rfl;obtain ⟨v9, e9, f9⟩ := hf 9 _ 43 rfl rfl;obtain ⟨v10, e10, f10⟩ := hf 10 _ 44 rfl rfl;obtain ⟨v11, e11, f11⟩ := hf 11 _ 45 rfl rfl;obtain ⟨v12, e12, f12⟩ := hf 12 _ 46 rfl rfl;obtain rfl := (f12.2.2.2.2 rfl).symm;rw [hoff.sets [(34, .pointer (some ⟨kz, 0, none⟩)), (35, .int .i64 z.kind), (36, .bool false), (37, .bool false), (38, v4), (39, v5), (40, v6), (41, v7), (42, v8), (43, v9), (44, v10), (45, v11), (46, .bool false)] (by kernel_rfl) (by intro p hp; simp only [List.mem_cons, List.not_mem_nil, or_false] at hp; rcases hp with rfl | rfl | rfl | rfl | rfl | rfl | rfl | rfl | rfl | rfl | rfl | rfl | rfl <;> assumption)];clear hoff hf e0 f0 e1 f1 e2 f2 e3 f3 e4 f4 e5 f5 e6 f6 e7 f7 e8 f8 e9 f9 e10 f10 e11 f11 e12 f12;simp only [List.foldl_cons, List.foldl_nil, List.setIfInBounds_toArray, List.set_cons_zero, List.set_cons_succ]
     have HB4 := Lib.hid (Below.step HBA.out hg);clear hg;go_wp2_with fail
     go_roundw
     case rel => exact ⟨k + 1, HKL.out, by go_num, HF, HB4.out⟩
     case measure => have := HKL.out; simp [intOf]; omega
   ·have i1 : decide ((k : Int) < (r.body.length : Int)) = false := decide_eq_false (by omega)
    have i2 : decide (k < r.body.length) = false := decide_eq_false hl;have HC2 : Hid (r.body.all (bodyLiB p.decls) = true) := by show _ = _; rw [hrec.out, List.drop_of_length_le (by omega)]; rfl
    have HE : Hid (ruleErr p.decls r = if (goAll [] r.body).1 = 0 then (if (varsL r.args).all (inB (goAll [] r.body).2) = true then 0 else 61) else (goAll [] r.body).1) := by show _ = _; rw [ruleErr, if_pos ⟨HC1.out, HC2.out⟩]
    clear HC1 HC2 hrec hk hl;have HB4 := Lib.hid (Below.step HB3.out hbel);have X14 := Lib.hid x1;have HR4 := Lib.hid (RepRu.on (fun _ h => h) (fun k (hk : k < w.heap.size) => hbel.block k (Nat.lt_of_lt_of_le hk HB3.out.size)) HR3.out);clear x0 x1 hbel HBR X03 X13 HP3 HR3 HB3 HLK;generalize wr = w4 at *;go_wp2_with fail
    clear q0 q1 q2 q3 q4 q5 i1 i2;go_loopw [7, 8, 9, 10, 11, 12] (fun bv iv _ _ _ _ wr => ∃ (k : Nat) (l : List ByteArray), k ≤ r.body.length ∧ iv = .int .i64 (k : Int) ∧ Hid (goAll [] r.body = goAll l (r.body.drop k)) ∧ Hid (l.length ≤ 9 * k) ∧ Hid (TxOwn wr w4.heap.size l bv) ∧ Hid (Below w4.heap.size w4 wr)) (fun _ iv _ _ _ _ _ => r.body.length - (intOf iv).toNat)
    case atStart => exact ⟨0, [], Nat.zero_le _, rfl, rfl, Nat.zero_le _, TxOwn.nil _ _, Below.refl _ _⟩
    case round =>
     obtain ⟨k, l, hk, rfl, hrec, HL9, HTX, HBL⟩ := hrel;have hk8 := HFEW.out.1;obtain ⟨q0, q1, q2, q3, q4, q5⟩ := (X14.out.on HBL.out).cells;have HRW := Lib.hid (RepRu.on (fun _ h => h) (fun j (hj : j < w.heap.size) => HBL.out.block j (Nat.lt_of_lt_of_le hj HB4.out.size)) HR4.out)
     by_cases hl : k < r.body.length
     ·have i1 : decide ((k : Int) < (r.body.length : Int)) = true := decide_eq_true (by omega)
      have i2 : decide (k < r.body.length) = true := decide_eq_true hl;obtain ⟨-, -, lb, lo, ga, gc, rfl, hSb, g0, g1, g2, g⟩ := RepLis.at HRW.out.2.2.2.2.2.2.2.2.2 k hl;have HD := Lib.hid (List.drop_eq_getElem_cons hl);have HA8 := Lib.hid (HFEW.out.2 _ (List.getElem_mem hl));have HRT := Lib.hid (HRL.out _ (List.getElem_mem hl));have HKL : Hid (k < r.body.length ∧ r.body.length ≤ 8) := ⟨hl, hk8⟩;have hj1 : (0 : Int) ≤ (k : Int) := Int.natCast_nonneg k;have hj2 : (k : Int) < (r.body.length : Int) := by omega
      have GM := Lib.hid g;clear g hSb;generalize r.body[k] = z at *;go_upto_region 14 with fail
      have mk := boxLi_new wr (.int .i64 z.kind) (.string z.name) (.slice ga z.args.length gc);have da := below_alloc wr (.cells #[.int .i64 z.kind, .string z.name, .slice ga z.args.length gc] 63);have HTA := Lib.hid (HTX.out.on da);have HBA := Lib.hid (Below.step HBL.out da);have HZ := Lib.hid (RepLi.on (S' := fun k => k < w.heap.size) (fun _ h => h) (fun j hj => da.block j (Nat.lt_of_lt_of_le hj (Nat.le_trans HB4.out.size HBL.out.size))) GM.out).2.2.2.2;clear q0 q1 q2 q3 q4 q5 g0 g1 g2 i1 i2 hj1 hj2 GM da;obtain ⟨kz, hkz⟩ : ∃ k, wr.heap.size = k := ⟨_, rfl⟩;have HOF : Hid (u7.ownBlock ≠ some kz) := fun e => by have := (HTX.out.lies kz e).2; omega
      have HKZ : Hid (w.heap.size ≤ w4.heap.size ∧ w4.heap.size ≤ kz) := ⟨HB4.out.size, by rw [← hkz]; exact HBL.out.size⟩;rw [hkz] at mk ⊢;have X2 := Lib.hid mk;clear mk hkz HTX HBL HRW;generalize wr.alloc (.cells #[.int .i64 z.kind, .string z.name, .slice ga z.args.length gc] 63) = wa at *;clear hk hl hk8;obtain ⟨e0, e1, e2⟩ := X2.out.cells;go_upto_if 61 with (fail)
      clear e0 e1 e2;go_cut [7, 10] from 59 to 84 (fun bv _ wc => Hid (TxOwn wc w4.heap.size (goArgs l z) bv) ∧ Hid (Below w4.heap.size w4 wc) ∧ Hid (BoxLi wc kz (.int .i64 z.kind) (.string z.name) (.slice ga z.args.length gc)) ∧ Hid (bv.ownBlock ≠ some kz))
      case first =>
       by_cases hk1 : z.kind = 1
       ·have hk2 : (z.kind == 1) = true := by simp [hk1]
        have HGA : Hid (goArgs l z = l ++ argNames z.args) := by show _ = _; rw [goArgs, if_pos hk1]
        clear hk1;go_wp2_with fail
        rw [hk2];clear hk2;generalize wa = wo at *;go_loopw [7, 10] (fun bv jv wi => ∃ j : Nat, j ≤ z.args.length ∧ jv = .int .i64 (j : Int) ∧ Hid (TxOwn wi w4.heap.size (l ++ argNames (z.args.take j)) bv) ∧ Hid (Below w4.heap.size w4 wi) ∧ Hid (BoxLi wi kz (.int .i64 z.kind) (.string z.name) (.slice ga z.args.length gc)) ∧ Hid (bv.ownBlock ≠ some kz)) (fun _ jv _ => z.args.length - (intOf jv).toNat)
        case atStart => exact ⟨0, Nat.zero_le _, rfl, by show TxOwn _ _ _ _; simpa [argNames] using HTA.out, HBA.out, X2.out, HOF.out⟩
        case round =>
         obtain ⟨j, hj, rfl, HTJ, HBJ, HXJ, HOJ⟩ := hrel;obtain ⟨e0, e1, e2⟩ := HXJ.out.cells;have ha8 := HA8.out
         by_cases hjl : j < z.args.length
         ·have i1 : decide ((j : Int) < (z.args.length : Int)) = true := decide_eq_true (by omega)
          have i2 : decide (j < z.args.length) = true := decide_eq_true hjl;have hz := (RepMs.on (fun _ h => h) (fun b hb => by have h := Nat.lt_of_lt_of_le hb HKZ.out.1; exact (HBJ.out.block b h).trans (HBA.out.block b h).symm) HZ.out : RepMs (fun k => k < w.heap.size) wr z.args (.slice ga z.args.length gc));obtain ⟨-, -, tb, t0, fa', fc', xa', xc', hga, htb, g0, g1, g2, g3, g4, g5, g6, g⟩ := RepMs.at hz j hjl;have hj1 : (0 : Int) ≤ (j : Int) := Int.natCast_nonneg j;have hj2 : (j : Int) < (z.args.length : Int) := by omega
          have HNT := Lib.hid (argNames_take z.args hjl);have HJL := Lib.hid hjl
          have HLL : Hid ((l ++ argNames (z.args.take j)).length ≤ 1000) := by
           show _ ≤ _
           have h1 := argNames_le (z.args.take j); have h2 := take_le' z.args j; have h3 := HL9.out; have h4 := HKL.out
           rw [List.length_append]; omega
          subst hga;clear g htb hz;generalize z.args[j] = y at *;clear hj hjl;obtain ⟨Q, hQ⟩ : ∃ Q, l ++ argNames (z.args.take j) = Q := ⟨_, rfl⟩;have HQ := Lib.hid hQ;rw [hQ] at HTJ HLL;clear hQ
          by_cases hy : y.kind = 1
          ·have hy2 : (y.kind == 1) = true := by simp [hy]
           have HNX : Hid (l ++ argNames (z.args.take (j + 1)) = Q ++ [y.name]) := by show _ = _; rw [HNT.out, if_pos hy, ← List.append_assoc, HQ.out]
           clear hy;obtain ⟨a6, cap6, w6, hrun, hm6, hb6, hk6, ho6⟩ := tx_append HTJ.out HBJ.out.size HLL.out y.name;have HRUN := Lib.hid hrun; have HM6 := Lib.hid hm6; have HB6 := Lib.hid hb6; have HK6 := Lib.hid hk6; have HO6 := Lib.hid ho6
           clear hrun hm6 hb6 hk6 ho6;go_wp2_with (at_builtin; refine wpList_append_by rfl _ _ _ rfl rfl rfl HRUN.out ?_)
           go_roundw
           case rel => exact ⟨j + 1, HJL.out, by go_num, by rw [HNX.out]; exact HM6, below_two HBJ.out HB6.out, (HK6.out kz HXJ.out.lt HOJ.out).trans HXJ.out, fun e => HOJ.out (HO6.out kz HXJ.out.lt e)⟩
           case measure => have := HJL.out; simp [intOf]; omega
          ·have hy2 : (y.kind == 1) = false := by simpa using hy
           have HNX : Hid (l ++ argNames (z.args.take (j + 1)) = Q) := by show _ = _; rw [HNT.out, if_neg hy, List.append_nil, HQ.out]
           clear hy;go_wp2_with fail
           go_roundw
           case rel => exact ⟨j + 1, HJL.out, by go_num, by rw [HNX.out]; exact HTJ, HBJ, HXJ, HOJ⟩
           case measure => have := HJL.out; simp [intOf]; omega
         ·have i1 : decide ((j : Int) < (z.args.length : Int)) = false := decide_eq_false (by omega)
          have i2 : decide (j < z.args.length) = false := decide_eq_false hjl;have hjj : z.args.take j = z.args := List.take_of_length_le (by omega);rw [hjj, ← HGA.out] at HTJ;clear hjj;go_wp2_with fail
          go_meet
          exact ⟨HTJ, HBJ, HXJ, HOJ⟩
       ·have hk2 : (z.kind == 1) = false := by simpa using hk1
        have HGA : Hid (goArgs l z = l) := by show _ = _; rw [goArgs, if_neg hk1]
        clear hk1;rw [← HGA.out] at HTA;go_wp2_with fail
        go_meet
        exact ⟨HTA, HBA, X2, HOF⟩
      case rest =>
       obtain ⟨HTC, HBC, X2C, HOC⟩ := hcut;have hsy : ∀ b, b < w.heap.size → wc.heap[b]? = wa.heap[b]? := fun b hb => by have h := Nat.lt_of_lt_of_le hb HKZ.out.1; exact (HBC.out.block b h).trans (HBA.out.block b h).symm
       have HZC : Hid (RepMs (fun k => k < w.heap.size) wc z.args (.slice ga z.args.length gc)) := RepMs.on (fun _ h => h) (fun b hb => hsy b hb) HZ.out
       have HLA : Hid ((goArgs l z).length ≤ l.length + 8) := by
        show _ ≤ _
        have := HA8.out;unfold goArgs
        split
        ·have := argNames_le z.args; rw [List.length_append]; omega
        ·omega
       have HLC : Hid (l.length ≤ 72) := by show _ ≤ _; have := HL9.out; have := HKL.out; omega
       clear hsy HZ HTA HBA X2 HOF;have HGE : Hid (goErr l z = if (varsL z.args).all (inB (goArgs l z)) = true then (if z.kind = 4 ∧ inB (goArgs l z) z.name = true then 62 else 0) else 61) := rfl;have HGS : Hid (goSet l z = if z.kind = 4 then goArgs l z ++ [z.name] else goArgs l z) := rfl;generalize goArgs l z = Q at *;obtain ⟨e0, e1, e2⟩ := X2C.out.cells;go_wp2_with fail
       refine (free6_any z.args Q (fun k => k < w.heap.size) (fun b => w4.heap.size ≤ b ∧ b < wc.heap.size) wc _ u7 (by have := HA8.out; omega) (all_vars6 HRT.out) (fun b hb => Nat.lt_of_lt_of_le hb (Nat.le_trans HKZ.out.1 HBC.out.size)) (fun b hb => hb.2) HZC.out (HTC.out.at (by have := HLA.out; have := HLC.out; omega))).mono ?_;rintro e w7 ⟨rfl, hb7⟩;have HT7 := Lib.hid (HTC.out.on hb7); have HB7 := Lib.hid (Below.step HBC.out hb7); have X27 := Lib.hid (X2C.out.on hb7)
       have HF7 : Hid (Below w.heap.size w w7) := Below.step HB4.out HB7.out;clear hb7 e0 e1 e2 HTC HBC X2C HZC;obtain ⟨e0, e1, e2⟩ := X27.out.cells
       cases hfr : (varsL z.args).all (inB Q) with
       | false =>
        have HF : Hid (ruleErr p.decls r = 61) := by
         show _ = _
         have h1 : goErr l z = 61 := by rw [HGE.out, if_neg (by rw [hfr]; decide)]
         have h2 : goAll [] r.body = (61, l) := by rw [hrec.out, HD.out, goAll, h1, if_neg (by decide)]
         rw [HE.out, h2, if_neg (show ¬ (61 : Int) = 0 by decide)]
        clear hfr;go_wp2_with fail
        go_ret
        exact ⟨ret_i HF.out.symm, HF7.out⟩
       | true =>
        by_cases h4 : z.kind = 4
        ·have h4b : (z.kind == 4) = true := by simp [h4]
         have HAT : Hid (TxAt (fun b => w4.heap.size ≤ b ∧ b < w7.heap.size) w7 Q u7) := HT7.out.at (by have := HLA.out; have := HLC.out; omega)
         cases hin : inB Q z.name with
         | true =>
          have HF : Hid (ruleErr p.decls r = 62) := by
           show _ = _
           have h1 : goErr l z = 62 := by rw [HGE.out, if_pos hfr, if_pos ⟨h4, hin⟩]
           have h2 : goAll [] r.body = (62, l) := by rw [hrec.out, HD.out, goAll, h1, if_neg (by decide)]
           rw [HE.out, h2, if_neg (show ¬ (62 : Int) = 0 by decide)]
          clear hfr h4;go_wp2_with fail
          refine (has6_any Q z.name _ w7 u7 HAT.out).mono ?_;rintro e w8 ⟨rfl, rfl⟩;rw [hin];go_wp2_with fail
          go_ret
          exact ⟨ret_i HF.out.symm, HF7.out⟩
         | false =>
          have HF : Hid (goAll [] r.body = goAll (Q ++ [z.name]) (r.body.drop (k + 1))) := by
           show _ = _
           have h1 : goErr l z = 0 := by rw [HGE.out, if_pos hfr, if_neg (fun h => by rw [hin] at h; cases h.2)]
           rw [hrec.out, HD.out, goAll, if_pos h1, HGS.out, if_pos h4]
          clear hfr h4;obtain ⟨a6, cap6, w8, hrun, hm6, hb6, -, -⟩ := tx_append HT7.out HB7.out.size (by have := HLA.out; have := HLC.out; omega) z.name;have HRUN := Lib.hid hrun; have HM6 := Lib.hid hm6; have HB8 := Lib.hid (below_two HB7.out hb6)
          clear hrun hm6 hb6;go_wp2_with fail
          refine (has6_any Q z.name _ w7 u7 HAT.out).mono ?_;rintro e w9 ⟨rfl, rfl⟩;rw [hin];go_wp2_with (at_builtin; refine wpList_append_by rfl _ _ _ rfl rfl rfl HRUN.out ?_)
          go_roundw
          case rel => exact ⟨k + 1, _, HKL.out.1, (by have := HKL.out; rw [show wrap64 ((k : Int) + 1) = ((k + 1 : Nat) : Int) by unfold wrap64; omega]), HF, by show _ ≤ _; have := HLA.out; have := HL9.out; rw [List.length_append, List.length_singleton]; omega, HM6, HB8⟩
          case measure => exact measure_up HKL.out.1 (by have := HKL.out; omega)
        ·have h4b : (z.kind == 4) = false := by simpa using h4
         have HF : Hid (goAll [] r.body = goAll Q (r.body.drop (k + 1))) := by
          show _ = _
          have h1 : goErr l z = 0 := by rw [HGE.out, if_pos hfr, if_neg (fun h => h4 h.1)]
          rw [hrec.out, HD.out, goAll, if_pos h1, HGS.out, if_neg h4]
         clear hfr h4;go_wp2_with fail
         go_roundw
         case rel => exact ⟨k + 1, _, HKL.out.1, (by have := HKL.out; rw [show wrap64 ((k : Int) + 1) = ((k + 1 : Nat) : Int) by unfold wrap64; omega]), HF, by show _ ≤ _; have := HLA.out; have := HL9.out; omega, HT7, HB7⟩
         case measure => exact measure_up HKL.out.1 (by have := HKL.out; omega)
     ·have i1 : decide ((k : Int) < (r.body.length : Int)) = false := decide_eq_false (by omega)
      have i2 : decide (k < r.body.length) = false := decide_eq_false hl;have HG : Hid (goAll [] r.body = (0, l)) := by show _ = _; rw [hrec.out, List.drop_of_length_le (by omega), goAll]
      have HE2 : Hid (ruleErr p.decls r = if (varsL r.args).all (inB l) = true then 0 else 61) := by show _ = _; rw [HE.out, HG.out]; simp
      have HBW : Hid (Below w.heap.size w wr) := Below.step HB4.out HBL.out;have HLC : Hid (l.length ≤ 72) := by show _ ≤ _; have := HL9.out; omega
      clear hrec HG HE;go_wp2_with fail
      refine (free6_any r.args l (fun k => k < w.heap.size) (fun b => w4.heap.size ≤ b ∧ b < wr.heap.size) wr _ u7 (by have := HRA.out.1; omega) (all_vars6 HRA.out.2) (fun b hb => Nat.lt_of_lt_of_le hb HBW.out.size) (fun b hb => hb.2) HRW.out.2.2.2.2.2.2.2.2.1 (HTX.out.at (by have := HLC.out; omega))).mono ?_;rintro e w7 ⟨rfl, hb7⟩;have HB7 := Lib.hid (Below.step HBW.out hb7);clear hb7 q0 q1 q2 q3 q4 q5
      cases hc : (varsL r.args).all (inB l) with
      | false =>
       have HF : Hid (ruleErr p.decls r = 61) := by show _ = _; rw [HE2.out, hc]; rfl
       clear hc;go_wp2_with fail
       go_ret
       exact ⟨ret_i HF.out.symm, HB7.out⟩
      | true =>
       have HF : Hid (ruleErr p.decls r = 0) := by show _ = _; rw [HE2.out, hc]; rfl
       clear hc;go_wp2_with fail
       go_ret
       exact ⟨ret_i HF.out.symm, HB7.out⟩
end Go.Proofs.YtjohcnhiblfbnaaGreat
