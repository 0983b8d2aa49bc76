/-
  StrSteps
-/
import Derived.Test.YtjmnnjikmmglpaaGreatKF22
namespace Go.Proofs.YtjmnnjikmmglpaaGreat
open Go.RowKit Go.Maps
theorem flat_take {α β : Type} (f : α → List β) (l : List α) {k : Nat} (h : k < l.length) : (l.take (k + 1)).flatMap f = (l.take k).flatMap f ++ f l[k] := by
 rw [List.take_succ_eq_append_getElem h, List.flatMap_append]; simp
theorem flat_take_le {α β : Type} (f : α → List β) (l : List α) (k : Nat) : ((l.take k).flatMap f).length ≤ (l.flatMap f).length := by
 conv => rhs; rw [← List.take_append_drop k l, List.flatMap_append, List.length_append]
 omega
set_option maxRecDepth 100000 in
set_option maxHeartbeats 4000000 in
theorem steps_any (p : Pr) (S : Nat → Prop) (w : World) (c0 c1 c2 : Value) (hS : ∀ k, S k → k < w.heap.size) (hp : RepPr S w p c0 c1 c2) (hck : (checkZ p).1 = 0) :
  Calls Tryz.prog 36 #[.agg #[c0, c1, c2]] w fun e w' => ∃ v, e = .returned v ∧ StOwn w' w.heap.size (prSteps p) v ∧ Below w.heap.size w w' := by
 have HP := Lib.hid hp; have HS := Lib.hid hS
 obtain ⟨h1, -, -, h4⟩ := check_zero hck;have HRU := Lib.hid (pr_rules h1); have HER := Lib.hid h4
 have HLEN := Lib.hid (prSteps_le h1)
 have HDN : Hid (p.decls.length ≤ 64 ∧ p.rules.length ≤ 64) := by
  rw [prB] at h1;simp only [Bool.and_eq_true] at h1
  have a := (listB_bounds h1.1).2.1; have b := (listB_bounds h1.2.2).2.1
  show _ ∧ _; omega
 obtain ⟨f0, f1, rfl⟩ := SlG.form hp.1;obtain ⟨f2, f3, rfl⟩ := SlG.form hp.2.1;obtain ⟨f4, f5, rfl⟩ := SlG.form hp.2.2;clear hp hS h1 h4 hck;go_enter Tryz.func36, Tryz.ntmps36
 go_upto_region 1 with fail
 have x0 := boxPr_new w (.slice f0 p.decls.length f1) (.slice f2 p.facts.length f3) (.slice f4 p.rules.length f5);have d0 := below_alloc w (.cells #[.slice f0 p.decls.length f1, .slice f2 p.facts.length f3, .slice f4 p.rules.length f5] 28);generalize w.alloc (.cells #[.slice f0 p.decls.length f1, .slice f2 p.facts.length f3, .slice f4 p.rules.length f5] 28) = w1 at *;have X1 := Lib.hid x0; have B1 := Lib.hid d0
 have P1 := Lib.hid (RepPr.on (S' := fun k => k < w.heap.size) HS.out (fun k hk => d0.block k (HS.out k hk)) HP.out);clear x0 d0 HP HS;obtain ⟨p0, p1, p2⟩ := X1.out.cells;go_wp2_with fail
 refine (placesOf_any p.decls (fun k => k < w.heap.size) w1 _ (fun k hk => Nat.lt_of_lt_of_le hk B1.out.size) P1.out.1 (by have := HDN.out; omega)).mono ?_;rintro e w2 ⟨mb, rfl, hmb, hmap, hb⟩;have X2 := Lib.hid (X1.out.on hb); have B2 := Lib.hid (Below.step B1.out hb)
 have P2 : Hid (RepRus (fun k => k < w.heap.size) w2 p.rules (.slice f4 p.rules.length f5)) := Lib.hid (RepRus.on (fun _ h => h) (fun k (hk : k < w.heap.size) => hb.block k (Nat.lt_of_lt_of_le hk B1.out.size)) P1.out.2.2);have MB := Lib.hid hmap.lt;have HM := Lib.hid hmap;clear hb hmb hmap p0 p1 p2 X1 B1 P1;obtain ⟨p0, p1, p2⟩ := X2.out.cells;go_wp2_with fail
 clear p0 p1 p2 X2;go_loopw [4, 15] (fun ov iv wr => ∃ k : Nat, k ≤ p.rules.length ∧ iv = .int .i64 (k : Int) ∧ Hid (StOwn wr w2.heap.size ((p.rules.take k).flatMap (ruSteps p.decls)) ov) ∧ Hid (Below w2.heap.size w2 wr)) (fun _ iv _ => p.rules.length - (intOf iv).toNat)
 case atStart => exact ⟨0, Nat.zero_le _, rfl, Lib.hid (StOwn.nil _ _), Lib.hid (Below.refl _ _)⟩
 case round =>
  obtain ⟨k, hk, rfl, hown, hbel⟩ := hrel
  by_cases hl : k < p.rules.length
  ·have HWS : Hid (w2.heap.size ≤ wr.heap.size) := hbel.out.size
   have P5 : Hid (RepRus (fun k => k < w.heap.size) wr p.rules (.slice f4 p.rules.length f5)) := Lib.hid (RepRus.on (fun _ h => h) (fun k (hk : k < w.heap.size) => hbel.out.block k (Nat.lt_of_lt_of_le hk B2.out.size)) P2.out);obtain ⟨-, -, lb, lo, fa2, fc2, ga, gc, rfl, hSb, g0, g1, g2, g3, g4, g5, g⟩ := RepRus.at P5.out k hl;have HTK := Lib.hid (flat_take (ruSteps p.decls) p.rules hl);have HTL := Lib.hid (flat_take_le (ruSteps p.decls) p.rules (k + 1));have HRB := Lib.hid (HRU.out _ (List.getElem_mem hl)); have HRE := Lib.hid (HER.out _ (List.getElem_mem hl))
   have G := Lib.hid g;clear g hSb P5;generalize p.rules[k] = r at *;have hba := below_alloc wr (.cells #[.string r.label, .string r.head, .slice fa2 r.args.length fc2, .string r.agg, .int .i64 r.at', .slice ga r.body.length gc] 47);have hbx := boxRu_new wr (.string r.label) (.string r.head) (.slice fa2 r.args.length fc2) (.string r.agg) (.int .i64 r.at') (.slice ga r.body.length gc);have GB : Hid (RepLis (fun k => k < w.heap.size) (wr.alloc (.cells #[.string r.label, .string r.head, .slice fa2 r.args.length fc2, .string r.agg, .int .i64 r.at', .slice ga r.body.length gc] 47)) r.body (.slice ga r.body.length gc)) := RepLis.on (fun _ h => h) (fun j (hj : j < w.heap.size) => hba.block j (Nat.lt_of_lt_of_le hj (Nat.le_trans B2.out.size HWS.out))) G.out.2.2.2.2.2.2.2.2.2;have HSZ : Hid (r.head.size ≤ maxLen) := G.out.2.2.2.2.2.1;have HOB : Hid (u4.ownBlock ≠ some wr.heap.size) := fun e => Nat.lt_irrefl _ (OwnK.lies hown.out _ e).2
   have HO := Lib.hid (hown.out.on hba); have HB := Lib.hid (Below.step hbel.out hba)
   clear hown hbel G;go_upto_region 6 with fail
   clear g0 g1 g2 g3 g4 g5;obtain ⟨bx, hbk⟩ : ∃ bx, wr.heap.size = bx := ⟨_, rfl⟩;have HBX : Hid (w2.heap.size ≤ bx) := by show _ ≤ _; rw [← hbk]; exact HWS.out
   rw [hbk] at hbx HOB ⊢;clear hbk hba HWS;generalize wr.alloc (.cells #[.string r.label, .string r.head, .slice fa2 r.args.length fc2, .string r.agg, .int .i64 r.at', .slice ga r.body.length gc] 47) = wa at *;have X := Lib.hid hbx;clear hbx;obtain ⟨q0, q1, q2, q3, q4, q5⟩ := X.out.cells;go_wp2_with fail
   clear q0 q1 q2 q3 q4 q5;have HXL := Lib.hid X.out.lt;have HRL : Hid ((ruSteps p.decls r).length ≤ 8) := ruSteps_le HRB.out;have HAW : Hid (w2.heap.size ≤ wa.heap.size) := HB.out.size;go_loopw [4, 22] (fun ov iv wr => ∃ m : Nat, m ≤ r.body.length ∧ iv = .int .i64 (m : Int) ∧ Hid (StOwn wr w2.heap.size ((p.rules.take k).flatMap (ruSteps p.decls) ++ (r.body.take m).flatMap (litSteps p.decls r)) ov) ∧ Hid (Below w2.heap.size w2 wr) ∧ Hid (BoxRu wr bx (.string r.label) (.string r.head) (.slice fa2 r.args.length fc2) (.string r.agg) (.int .i64 r.at') (.slice ga r.body.length gc)) ∧ Hid (ov.ownBlock ≠ some bx)) (fun _ iv _ => r.body.length - (intOf iv).toNat)
   case atStart => exact ⟨0, Nat.zero_le _, rfl, Lib.hid (by simpa using HO.out), HB, X, HOB⟩
   case round =>
    obtain ⟨m, hm, rfl, hown, hbel, hbx, hne⟩ := hrel
    by_cases hml : m < r.body.length
    ·
     have hsz2 := hbel.out.size;have GL : Hid (RepLis (fun k => k < w.heap.size) wr r.body (.slice ga r.body.length gc)) := RepLis.on (fun _ h => h) (fun j (hj : j < w.heap.size) => (hbel.out.block j (Nat.lt_of_lt_of_le hj B2.out.size)).trans (HB.out.block j (Nat.lt_of_lt_of_le hj B2.out.size)).symm) GB.out;obtain ⟨-, -, ib, io, ha, hc, rfl, hSb, g0, g1, g2, g⟩ := RepLis.at GL.out m hml;have HZS : Hid (r.body[m].name.size ≤ maxLen) := g.2.2.2.1;have HTM := Lib.hid (flat_take (litSteps p.decls r) r.body hml);have HLB := Lib.hid (ru_body HRB.out _ (List.getElem_mem hml));have HBL := Lib.hid (List.all_eq_true.1 (ruleErr_zero HRE.out).2 _ (List.getElem_mem hml))
     have hb8 : r.body.length ≤ 8 := by
      have h := HRB.out;rw [ruB] at h;simp only [Bool.and_eq_true] at h
      have := (listB_bounds h.2.2.2).2.1;omega
     have HLL0 : Hid ((((p.rules.take k).flatMap (ruSteps p.decls) ++ (r.body.take m).flatMap (litSteps p.decls r))).length ≤ 1000) := by
      have a := flat_take_le (litSteps p.decls r) r.body m;have b := flat_take_le (ruSteps p.decls) p.rules k;have c := HLEN.out; have d := HRL.out
      show _ ≤ _
      rw [List.length_append];have e : (ruSteps p.decls r).length = (r.body.flatMap (litSteps p.decls r)).length := rfl;have f : (prSteps p).length = (p.rules.flatMap (ruSteps p.decls)).length := rfl;omega
     clear hSb g GL;generalize r.body[m] = z at *;have hba := below_alloc wr (.cells #[.int .i64 z.kind, .string z.name, .slice ha z.args.length hc] 60);have hxl := boxLi_new wr (.int .i64 z.kind) (.string z.name) (.slice ha z.args.length hc);have HO5 := Lib.hid (hown.out.on hba); have HB5 := Lib.hid (Below.step hbel.out hba); have X5 := Lib.hid (hbx.out.on hba)
     have HWS5 : Hid (w2.heap.size ≤ (wr.alloc (.cells #[.int .i64 z.kind, .string z.name, .slice ha z.args.length hc] 60)).heap.size) := HB5.out.size;clear hown hbel hbx;go_upto_region 9 with fail
     clear g0 g1 g2;obtain ⟨bl, hbl⟩ : ∃ bl, wr.heap.size = bl := ⟨_, rfl⟩;rw [hbl] at hxl ⊢;clear hbl hba;generalize wr.alloc (.cells #[.int .i64 z.kind, .string z.name, .slice ha z.args.length hc] 60) = w5 at *;have XL5 := Lib.hid hxl;clear hxl hsz2;have HM5 : Hid (AtMap w5 mb p.decls.length (atO p.decls 0)) := HM.out.grown ⟨HB5.out.os, HB5.out.tape, HB5.out.output, HB5.out.size, fun k hk _ => HB5.out.block k hk⟩ (row := none) (by simp);obtain ⟨r0, r1, r2⟩ := XL5.out.cells;have HKIND : Hid (z.kind = 1 ∨ z.kind = 2 → litSteps p.decls r z = [⟨atN p.decls r.head, atN p.decls z.name, riseOf r z⟩]) := fun h => by rw [litSteps, if_pos h]
     have HNONE : Hid (¬ (z.kind = 1 ∨ z.kind = 2) → litSteps p.decls r z = []) := fun h => by rw [litSteps, if_neg h]
     have HA1 : Hid (atO p.decls 0 r.head = some (atN p.decls r.head)) := atO_some (ru_at HRB.out HRE.out);have HA20 : Hid (z.kind = 1 ∨ z.kind = 2 → atO p.decls 0 z.name = some (atN p.decls z.name)) := fun h => atO_some (lit_at HLB.out HBL.out h)
     clear HLB HBL
     cases hk1 : (z.kind == 1) with
     | true =>
      have HK : Hid (z.kind = 1 ∨ z.kind = 2) := .inl (by simpa using hk1);clear HNONE;go_wp2_with fail
      clear r0 r1 r2;obtain ⟨LL, hLL⟩ : ∃ LL, (p.rules.take k).flatMap (ruSteps p.decls) ++ (r.body.take m).flatMap (litSteps p.decls r) = LL := ⟨_, rfl⟩;have HR3 : Hid ((riseOf r z : Int) = (riseOf r z : Int)) := rfl;have HA2 : Hid (atO p.decls 0 z.name = some (atN p.decls z.name)) := HA20.out HK.out
      have HNX : Hid ((p.rules.take k).flatMap (ruSteps p.decls) ++ (r.body.take (m + 1)).flatMap (litSteps p.decls r) = LL ++ [⟨atN p.decls r.head, atN p.decls z.name, riseOf r z⟩]) := by
       show _ = _
       rw [HTM.out, HKIND.out HK.out, ← List.append_assoc, hLL]
      have HNE := hne;clear hne;rw [hLL] at HO5 HLL0;have HLL := HLL0;clear hLL HTM HKIND HA20 HLL0;generalize atN p.decls r.head = A at *;generalize atN p.decls z.name = Bn at *;generalize hrn : riseOf r z = Rn at *;replace HR3 : Hid ((riseOf r z : Int) = (Rn : Int)) := by show _ = _; rw [hrn]
      clear hrn;refine wp_region_factsP (by rfl) 49 (by rfl) (by kernel_rfl) 14 (fun q => q == 0 || q == 1 || q == 2 || q == 3 || q == 4 || q == 5 || q == 6 || q == 7 || q == 8 || q == 9 || q == 10 || q == 11 || q == 12 || q == 13) (by kernel_rfl) (FB [.e u4, .e (.map (some mb)), .e (.pointer (some ⟨bx, 1, none⟩)), .e (.string r.head), .e (.int .i64 (A : Int)), .e (.map (some mb)), .e (.pointer (some ⟨bl, 1, none⟩)), .e (.string z.name), .e (.int .i64 (Bn : Int)), .e (.agg #[.string r.label, .string r.head, .slice fa2 r.args.length fc2, .string r.agg, .int .i64 r.at', (.slice (some ⟨ib, io, none⟩) r.body.length gc)]), .e (.agg #[.int .i64 z.kind, .string z.name, .slice ha z.args.length hc]), .e (.int .i64 (Rn : Int)), .e (.agg #[.int .i64 (A : Int), .int .i64 (Bn : Int), .int .i64 (Rn : Int)]), .p (fun wz vz => RowOf w5.heap.size (.cells (stCells ⟨A, Bn, Rn⟩) 131 (0, 0)) wz vz), .t (fun wz vz => ∃ a cap, vz = .slice a (LL.length + 1) cap ∧ StOwn wz w2.heap.size (LL ++ [⟨A, Bn, Rn⟩]) vz ∧ vz.ownBlock ≠ some bx)]) (fun ph w' => if ph = true then Aft w5 w2.heap.size u4 w' else Below w5.heap.size w5 w') (Below.drew (Below.refl _ _)) ⟨?s0, ?s1, ?s2, ?s3, ?s4, ?s5, ?s6, ?s7, ?s8, ?s9, ?s10, ?s11, ?s12, ?s13, ?s14, trivial⟩ (by rfl) ?slast
      case s0 =>
       intro a w' hoff hg hdep K hK;replace hg : Below w5.heap.size w5 w' := hg;have h4 := off_at hoff 4 (v := u4) (by kernel_rfl) rfl;rw [if_pos (by rfl)];go_simp;exact hK.out _ _ hg rfl (fun _ _ h => h)
      case s1 =>
       intro a w' hoff hg hdep K hK;replace hg : Below w5.heap.size w5 w' := hg;have h3 := off_at hoff 3 (v := .map (some mb)) (by kernel_rfl) rfl;rw [if_pos (by rfl)];go_simp;exact hK.out _ _ hg rfl (fun _ _ h => h)
      case s2 =>
       intro a w' hoff hg hdep K hK;replace hg : Below w5.heap.size w5 w' := hg;have h6 := off_at hoff 6 (v := .pointer (some ⟨bx, 0, none⟩)) (by kernel_rfl) rfl;rw [if_pos (by rfl)];go_simp;exact hK.out _ _ hg rfl (fun _ _ h => h)
      case s3 =>
       intro a w' hoff hg hdep K hK;replace hg : Below w5.heap.size w5 w' := hg;obtain ⟨_, e2, rfl⟩ := hdep 2 _ 33 (by kernel_rfl) rfl rfl;rw [if_pos (by rfl)];obtain ⟨q0, q1, q2, q3, q4, q5⟩ := (X5.out.on hg).cells; obtain ⟨e0', e1', e2'⟩ := (XL5.out.on hg).cells
       go_simp;exact hK.out _ _ hg rfl (fun _ _ h => h)
      case s4 =>
       intro a w' hoff hg hdep K hK;replace hg : Below w5.heap.size w5 w' := hg;obtain ⟨_, e1, rfl⟩ := hdep 1 _ 32 (by kernel_rfl) rfl rfl;obtain ⟨_, e3, rfl⟩ := hdep 3 _ 34 (by kernel_rfl) rfl rfl;rw [if_pos (by rfl)];have hr := at_run (HM5.out.on hg) HSZ.out HA1.out;go_simp;exact hK.out _ _ hg rfl (fun _ _ h => h)
      case s5 =>
       intro a w' hoff hg hdep K hK;replace hg : Below w5.heap.size w5 w' := hg;have h3 := off_at hoff 3 (v := .map (some mb)) (by kernel_rfl) rfl;rw [if_pos (by rfl)];go_simp;exact hK.out _ _ hg rfl (fun _ _ h => h)
      case s6 =>
       intro a w' hoff hg hdep K hK;replace hg : Below w5.heap.size w5 w' := hg;have h8 := off_at hoff 8 (v := .pointer (some ⟨bl, 0, none⟩)) (by kernel_rfl) rfl;rw [if_pos (by rfl)];go_simp;exact hK.out _ _ hg rfl (fun _ _ h => h)
      case s7 =>
       intro a w' hoff hg hdep K hK;replace hg : Below w5.heap.size w5 w' := hg;obtain ⟨_, e6, rfl⟩ := hdep 6 _ 37 (by kernel_rfl) rfl rfl;rw [if_pos (by rfl)];obtain ⟨q0, q1, q2, q3, q4, q5⟩ := (X5.out.on hg).cells; obtain ⟨e0', e1', e2'⟩ := (XL5.out.on hg).cells
       go_simp;exact hK.out _ _ hg rfl (fun _ _ h => h)
      case s8 =>
       intro a w' hoff hg hdep K hK;replace hg : Below w5.heap.size w5 w' := hg;obtain ⟨_, e5, rfl⟩ := hdep 5 _ 36 (by kernel_rfl) rfl rfl;obtain ⟨_, e7, rfl⟩ := hdep 7 _ 38 (by kernel_rfl) rfl rfl;rw [if_pos (by rfl)];have hr := at_run (HM5.out.on hg) HZS.out HA2.out;go_simp;exact hK.out _ _ hg rfl (fun _ _ h => h)
      case s9 =>
       intro a w' hoff hg hdep K hK;replace hg : Below w5.heap.size w5 w' := hg;have h6 := off_at hoff 6 (v := .pointer (some ⟨bx, 0, none⟩)) (by kernel_rfl) rfl;rw [if_pos (by rfl)];obtain ⟨q0, q1, q2, q3, q4, q5⟩ := (X5.out.on hg).cells; obtain ⟨e0', e1', e2'⟩ := (XL5.out.on hg).cells
       go_simp;exact hK.out _ _ hg rfl (fun _ _ h => h)
      case s10 =>
       intro a w' hoff hg hdep K hK;replace hg : Below w5.heap.size w5 w' := hg;have h8 := off_at hoff 8 (v := .pointer (some ⟨bl, 0, none⟩)) (by kernel_rfl) rfl;rw [if_pos (by rfl)];obtain ⟨q0, q1, q2, q3, q4, q5⟩ := (X5.out.on hg).cells; obtain ⟨e0', e1', e2'⟩ := (XL5.out.on hg).cells
       go_simp;exact hK.out _ _ hg rfl (fun _ _ h => h)
      case s11 =>
       intro a w' hoff hg hdep K hK;replace hg : Below w5.heap.size w5 w' := hg;obtain ⟨_, e9, rfl⟩ := hdep 9 _ 40 (by kernel_rfl) rfl rfl;obtain ⟨_, e10, rfl⟩ := hdep 10 _ 41 (by kernel_rfl) rfl rfl;rw [if_pos (by rfl)];go_simp;refine (rise_any r z w' _ _ _).mono ?_;rintro e w6 ⟨rfl, hb⟩;rw [HR3.out];exact hK.out _ _ (Below.step hg hb) rfl (fStP ⟨fun _ h => RowOf.stay hb h, trivial⟩)
      case s12 =>
       intro a w' hoff hg hdep K hK;replace hg : Below w5.heap.size w5 w' := hg;obtain ⟨_, e4, rfl⟩ := hdep 4 _ 35 (by kernel_rfl) rfl rfl;obtain ⟨_, e8, rfl⟩ := hdep 8 _ 39 (by kernel_rfl) rfl rfl;obtain ⟨_, e11, rfl⟩ := hdep 11 _ 42 (by kernel_rfl) rfl rfl;rw [if_pos (by rfl)];go_simp;exact hK.out _ _ hg rfl (fun _ _ h => h)
      case s13 =>
       intro a w' hoff hg hdep K hK;replace hg : Below w5.heap.size w5 w' := hg;obtain ⟨_, e12, rfl⟩ := hdep 12 _ 43 (by kernel_rfl) rfl rfl;rw [if_pos (by rfl)];go_simp;have hb := below_alloc w' (.cells (stCells ⟨A, Bn, Rn⟩) 131);have hp := RowOf.new (cs := stCells ⟨A, Bn, Rn⟩) (t := 131) hg.size;exact hK.out _ _ (Below.step hg hb) (fun _ => hp) (fStP ⟨fun _ h => RowOf.stay hb h, trivial⟩)
      case s14 =>
       intro a w' hoff hg hdep K hK;replace hg : Below w5.heap.size w5 w' := hg;obtain ⟨v0, e0, f0⟩ := hdep 0 _ 31 (by kernel_rfl) rfl rfl;obtain rfl : u4 = v0 := Eq.symm f0;obtain ⟨v13, e13, f13⟩ := hdep 13 _ 44 (by kernel_rfl) rfl rfl;have g13 : RowOf w5.heap.size (.cells (stCells ⟨A, Bn, Rn⟩) 131 (0, 0)) w' v13 := f13 rfl;clear f13;obtain ⟨b, rfl, hbk, hbB⟩ := g13;obtain ⟨va, vcap, w6, hrun, hm6, hgr, hob⟩ := st_append (HO5.out.on hg) (Nat.le_trans HWS5.out hg.size) HLL.out hbk;refine step_append_by rfl (.tmp 31) (.tmp 44) 83 rfl (by simp [Act.eval, e0]) (by simp [Act.eval, e13]) hrun ?_;have hp : ∃ a cap, (.slice va (LL.length + 1) vcap : Value) = .slice a (LL.length + 1) cap ∧ StOwn w6 w2.heap.size (LL ++ [⟨A, Bn, Rn⟩]) (.slice va (LL.length + 1) vcap) ∧ (Value.slice va (LL.length + 1) vcap).ownBlock ≠ some bx := ⟨_, _, rfl, hm6, fun e => by rcases hob with h | h; exact HNE.out (h.symm.trans e); rw [h] at e; have e := Option.some.inj e; have := X5.out.lt; have := hg.size; omega⟩;have hG2 := Aft.of (K := kdStp) (S := fun _ => False) HO5.out HWS5.out hg hgr;exact hK.out _ _ hG2 (fun _ => hp) (fPass rfl)
      case slast =>
       intro a w' hoff hg hf;replace hg : Aft w5 w2.heap.size u4 w' := hg;obtain ⟨v0, e0, f0⟩ := hf 0 _ 31 (by decide) rfl rfl;obtain rfl : u4 = v0 := Eq.symm f0;obtain ⟨_, e1, rfl⟩ := hf 1 _ 32 (by decide) rfl rfl;obtain ⟨_, e2, rfl⟩ := hf 2 _ 33 (by decide) rfl rfl;obtain ⟨_, e3, rfl⟩ := hf 3 _ 34 (by decide) rfl rfl;obtain ⟨_, e4, rfl⟩ := hf 4 _ 35 (by decide) rfl rfl;obtain ⟨_, e5, rfl⟩ := hf 5 _ 36 (by decide) rfl rfl;obtain ⟨_, e6, rfl⟩ := hf 6 _ 37 (by decide) rfl rfl;obtain ⟨_, e7, rfl⟩ := hf 7 _ 38 (by decide) rfl rfl;obtain ⟨_, e8, rfl⟩ := hf 8 _ 39 (by decide) rfl rfl;obtain ⟨_, e9, rfl⟩ := hf 9 _ 40 (by decide) rfl rfl;obtain ⟨_, e10, rfl⟩ := hf 10 _ 41 (by decide) rfl rfl;obtain ⟨_, e11, rfl⟩ := hf 11 _ 42 (by decide) rfl rfl;obtain ⟨_, e12, rfl⟩ := hf 12 _ 43 (by decide) rfl rfl;obtain ⟨v13, e13, -⟩ := hf 13 _ 44 (by decide) rfl rfl;obtain ⟨v14, e14, f14⟩ := hf 14 _ 45 (by decide) rfl rfl;have g14 : ∃ a cap, v14 = .slice a (LL.length + 1) cap ∧ StOwn w' w2.heap.size (LL ++ [⟨A, Bn, Rn⟩]) v14 ∧ v14.ownBlock ≠ some bx := f14 rfl;clear f14;obtain ⟨va, vcap, rfl, hm6, hob⟩ := g14;rw [if_pos (by rfl)];rw [hoff.sets [(31, u4), (32, .map (some mb)), (33, .pointer (some ⟨bx, 1, none⟩)), (34, .string r.head), (35, .int .i64 (A : Int)), (36, .map (some mb)), (37, .pointer (some ⟨bl, 1, none⟩)), (38, .string z.name), (39, .int .i64 (Bn : Int)), (40, .agg #[.string r.label, .string r.head, .slice fa2 r.args.length fc2, .string r.agg, .int .i64 r.at', (.slice (some ⟨ib, io, none⟩) r.body.length gc)]), (41, .agg #[.int .i64 z.kind, .string z.name, .slice ha z.args.length hc]), (42, .int .i64 (Rn : Int)), (43, .agg #[.int .i64 (A : Int), .int .i64 (Bn : Int), .int .i64 (Rn : Int)]), (44, v13), (45, .slice va (LL.length + 1) vcap)] (by kernel_rfl) (by intro p hp; simp only [List.mem_cons, List.not_mem_nil, or_false] at hp; rcases hp with rfl | rfl | rfl | rfl | rfl | rfl | rfl | rfl | rfl | rfl | rfl | rfl | rfl | rfl | rfl <;> assumption)];clear hoff hf e0 e1 e2 e3 e4 e5 e6 e7 e8 e9 e10 e11 e12 e13 e14;simp only [List.foldl_cons, List.foldl_nil, List.setIfInBounds_toArray, List.set_cons_zero, List.set_cons_succ]
       go_simp;have HKO : Hid (StOwn w' w2.heap.size ((p.rules.take k).flatMap (ruSteps p.decls) ++ (r.body.take (m + 1)).flatMap (litSteps p.decls r)) (.slice va (LL.length + 1) vcap)) := by show StOwn _ _ _ _; rw [HNX.out]; exact hm6
       have HKB : Hid (Below w2.heap.size w2 w') := below2 HB5.out hg.below;have HKX : Hid (BoxRu w' bx (.string r.label) (.string r.head) (.slice fa2 r.args.length fc2) (.string r.agg) (.int .i64 r.at') (.slice (some ⟨ib, io, none⟩) r.body.length gc)) := (hg.block bx X5.out.lt HNE.out).trans X5.out;have HKN := Lib.hid hob;clear hg hm6 hob;go_wp2_with fail
       go_roundw
       case rel => exact ⟨m + 1, hml, by go_num, HKO, HKB, HKX, HKN⟩
       case measure => simp [intOf]; omega
     | false =>
      cases hk2 : (z.kind == 2) with
      | true =>
       have HK : Hid (z.kind = 1 ∨ z.kind = 2) := .inr (by simpa using hk2);clear HNONE;go_wp2_with fail
       clear r0 r1 r2;obtain ⟨LL, hLL⟩ : ∃ LL, (p.rules.take k).flatMap (ruSteps p.decls) ++ (r.body.take m).flatMap (litSteps p.decls r) = LL := ⟨_, rfl⟩;have HR3 : Hid ((riseOf r z : Int) = (riseOf r z : Int)) := rfl;have HA2 : Hid (atO p.decls 0 z.name = some (atN p.decls z.name)) := HA20.out HK.out
       have HNX : Hid ((p.rules.take k).flatMap (ruSteps p.decls) ++ (r.body.take (m + 1)).flatMap (litSteps p.decls r) = LL ++ [⟨atN p.decls r.head, atN p.decls z.name, riseOf r z⟩]) := by
        show _ = _
        rw [HTM.out, HKIND.out HK.out, ← List.append_assoc, hLL]
       have HNE := hne;clear hne;rw [hLL] at HO5 HLL0;have HLL := HLL0;clear hLL HTM HKIND HA20 HLL0;generalize atN p.decls r.head = A at *;generalize atN p.decls z.name = Bn at *;generalize hrn : riseOf r z = Rn at *;replace HR3 : Hid ((riseOf r z : Int) = (Rn : Int)) := by show _ = _; rw [hrn]
       clear hrn;refine wp_region_factsP (by rfl) 49 (by rfl) (by kernel_rfl) 14 (fun q => q == 0 || q == 1 || q == 2 || q == 3 || q == 4 || q == 5 || q == 6 || q == 7 || q == 8 || q == 9 || q == 10 || q == 11 || q == 12 || q == 13) (by kernel_rfl) (FB [.e u4, .e (.map (some mb)), .e (.pointer (some ⟨bx, 1, none⟩)), .e (.string r.head), .e (.int .i64 (A : Int)), .e (.map (some mb)), .e (.pointer (some ⟨bl, 1, none⟩)), .e (.string z.name), .e (.int .i64 (Bn : Int)), .e (.agg #[.string r.label, .string r.head, .slice fa2 r.args.length fc2, .string r.agg, .int .i64 r.at', (.slice (some ⟨ib, io, none⟩) r.body.length gc)]), .e (.agg #[.int .i64 z.kind, .string z.name, .slice ha z.args.length hc]), .e (.int .i64 (Rn : Int)), .e (.agg #[.int .i64 (A : Int), .int .i64 (Bn : Int), .int .i64 (Rn : Int)]), .p (fun wz vz => RowOf w5.heap.size (.cells (stCells ⟨A, Bn, Rn⟩) 131 (0, 0)) wz vz), .t (fun wz vz => ∃ a cap, vz = .slice a (LL.length + 1) cap ∧ StOwn wz w2.heap.size (LL ++ [⟨A, Bn, Rn⟩]) vz ∧ vz.ownBlock ≠ some bx)]) (fun ph w' => if ph = true then Aft w5 w2.heap.size u4 w' else Below w5.heap.size w5 w') (Below.drew (Below.refl _ _)) ⟨?t0, ?t1, ?t2, ?t3, ?t4, ?t5, ?t6, ?t7, ?t8, ?t9, ?t10, ?t11, ?t12, ?t13, ?t14, trivial⟩ (by rfl) ?tlast
       case t0 =>
        intro a w' hoff hg hdep K hK;replace hg : Below w5.heap.size w5 w' := hg;have h4 := off_at hoff 4 (v := u4) (by kernel_rfl) rfl;rw [if_pos (by rfl)];go_simp;exact hK.out _ _ hg rfl (fun _ _ h => h)
       case t1 =>
        intro a w' hoff hg hdep K hK;replace hg : Below w5.heap.size w5 w' := hg;have h3 := off_at hoff 3 (v := .map (some mb)) (by kernel_rfl) rfl;rw [if_pos (by rfl)];go_simp;exact hK.out _ _ hg rfl (fun _ _ h => h)
       case t2 =>
        intro a w' hoff hg hdep K hK;replace hg : Below w5.heap.size w5 w' := hg;have h6 := off_at hoff 6 (v := .pointer (some ⟨bx, 0, none⟩)) (by kernel_rfl) rfl;rw [if_pos (by rfl)];go_simp;exact hK.out _ _ hg rfl (fun _ _ h => h)
       case t3 =>
        intro a w' hoff hg hdep K hK;replace hg : Below w5.heap.size w5 w' := hg;obtain ⟨_, e2, rfl⟩ := hdep 2 _ 33 (by kernel_rfl) rfl rfl;rw [if_pos (by rfl)];obtain ⟨q0, q1, q2, q3, q4, q5⟩ := (X5.out.on hg).cells; obtain ⟨e0', e1', e2'⟩ := (XL5.out.on hg).cells
        go_simp;exact hK.out _ _ hg rfl (fun _ _ h => h)
       case t4 =>
        intro a w' hoff hg hdep K hK;replace hg : Below w5.heap.size w5 w' := hg;obtain ⟨_, e1, rfl⟩ := hdep 1 _ 32 (by kernel_rfl) rfl rfl;obtain ⟨_, e3, rfl⟩ := hdep 3 _ 34 (by kernel_rfl) rfl rfl;rw [if_pos (by rfl)];have hr := at_run (HM5.out.on hg) HSZ.out HA1.out;go_simp;exact hK.out _ _ hg rfl (fun _ _ h => h)
       case t5 =>
        intro a w' hoff hg hdep K hK;replace hg : Below w5.heap.size w5 w' := hg;have h3 := off_at hoff 3 (v := .map (some mb)) (by kernel_rfl) rfl;rw [if_pos (by rfl)];go_simp;exact hK.out _ _ hg rfl (fun _ _ h => h)
       case t6 =>
        intro a w' hoff hg hdep K hK;replace hg : Below w5.heap.size w5 w' := hg;have h8 := off_at hoff 8 (v := .pointer (some ⟨bl, 0, none⟩)) (by kernel_rfl) rfl;rw [if_pos (by rfl)];go_simp;exact hK.out _ _ hg rfl (fun _ _ h => h)
       case t7 =>
        intro a w' hoff hg hdep K hK;replace hg : Below w5.heap.size w5 w' := hg;obtain ⟨_, e6, rfl⟩ := hdep 6 _ 37 (by kernel_rfl) rfl rfl;rw [if_pos (by rfl)];obtain ⟨q0, q1, q2, q3, q4, q5⟩ := (X5.out.on hg).cells; obtain ⟨e0', e1', e2'⟩ := (XL5.out.on hg).cells
        go_simp;exact hK.out _ _ hg rfl (fun _ _ h => h)
       case t8 =>
        intro a w' hoff hg hdep K hK;replace hg : Below w5.heap.size w5 w' := hg;obtain ⟨_, e5, rfl⟩ := hdep 5 _ 36 (by kernel_rfl) rfl rfl;obtain ⟨_, e7, rfl⟩ := hdep 7 _ 38 (by kernel_rfl) rfl rfl;rw [if_pos (by rfl)];have hr := at_run (HM5.out.on hg) HZS.out HA2.out;go_simp;exact hK.out _ _ hg rfl (fun _ _ h => h)
       case t9 =>
        intro a w' hoff hg hdep K hK;replace hg : Below w5.heap.size w5 w' := hg;have h6 := off_at hoff 6 (v := .pointer (some ⟨bx, 0, none⟩)) (by kernel_rfl) rfl;rw [if_pos (by rfl)];obtain ⟨q0, q1, q2, q3, q4, q5⟩ := (X5.out.on hg).cells; obtain ⟨e0', e1', e2'⟩ := (XL5.out.on hg).cells
        go_simp;exact hK.out _ _ hg rfl (fun _ _ h => h)
       case t10 =>
        intro a w' hoff hg hdep K hK;replace hg : Below w5.heap.size w5 w' := hg;have h8 := off_at hoff 8 (v := .pointer (some ⟨bl, 0, none⟩)) (by kernel_rfl) rfl;rw [if_pos (by rfl)];obtain ⟨q0, q1, q2, q3, q4, q5⟩ := (X5.out.on hg).cells; obtain ⟨e0', e1', e2'⟩ := (XL5.out.on hg).cells
        go_simp;exact hK.out _ _ hg rfl (fun _ _ h => h)
       case t11 =>
        intro a w' hoff hg hdep K hK;replace hg : Below w5.heap.size w5 w' := hg;obtain ⟨_, e9, rfl⟩ := hdep 9 _ 40 (by kernel_rfl) rfl rfl;obtain ⟨_, e10, rfl⟩ := hdep 10 _ 41 (by kernel_rfl) rfl rfl;rw [if_pos (by rfl)];go_simp;refine (rise_any r z w' _ _ _).mono ?_;rintro e w6 ⟨rfl, hb⟩;rw [HR3.out];exact hK.out _ _ (Below.step hg hb) rfl (fStP ⟨fun _ h => RowOf.stay hb h, trivial⟩)
       case t12 =>
        intro a w' hoff hg hdep K hK;replace hg : Below w5.heap.size w5 w' := hg;obtain ⟨_, e4, rfl⟩ := hdep 4 _ 35 (by kernel_rfl) rfl rfl;obtain ⟨_, e8, rfl⟩ := hdep 8 _ 39 (by kernel_rfl) rfl rfl;obtain ⟨_, e11, rfl⟩ := hdep 11 _ 42 (by kernel_rfl) rfl rfl;rw [if_pos (by rfl)];go_simp;exact hK.out _ _ hg rfl (fun _ _ h => h)
       case t13 =>
        intro a w' hoff hg hdep K hK;replace hg : Below w5.heap.size w5 w' := hg;obtain ⟨_, e12, rfl⟩ := hdep 12 _ 43 (by kernel_rfl) rfl rfl;rw [if_pos (by rfl)];go_simp;have hb := below_alloc w' (.cells (stCells ⟨A, Bn, Rn⟩) 131);have hp := RowOf.new (cs := stCells ⟨A, Bn, Rn⟩) (t := 131) hg.size;exact hK.out _ _ (Below.step hg hb) (fun _ => hp) (fStP ⟨fun _ h => RowOf.stay hb h, trivial⟩)
       case t14 =>
        intro a w' hoff hg hdep K hK;replace hg : Below w5.heap.size w5 w' := hg;obtain ⟨v0, e0, f0⟩ := hdep 0 _ 31 (by kernel_rfl) rfl rfl;obtain rfl : u4 = v0 := Eq.symm f0;obtain ⟨v13, e13, f13⟩ := hdep 13 _ 44 (by kernel_rfl) rfl rfl;have g13 : RowOf w5.heap.size (.cells (stCells ⟨A, Bn, Rn⟩) 131 (0, 0)) w' v13 := f13 rfl;clear f13;obtain ⟨b, rfl, hbk, hbB⟩ := g13;obtain ⟨va, vcap, w6, hrun, hm6, hgr, hob⟩ := st_append (HO5.out.on hg) (Nat.le_trans HWS5.out hg.size) HLL.out hbk;refine step_append_by rfl (.tmp 31) (.tmp 44) 83 rfl (by simp [Act.eval, e0]) (by simp [Act.eval, e13]) hrun ?_;have hp : ∃ a cap, (.slice va (LL.length + 1) vcap : Value) = .slice a (LL.length + 1) cap ∧ StOwn w6 w2.heap.size (LL ++ [⟨A, Bn, Rn⟩]) (.slice va (LL.length + 1) vcap) ∧ (Value.slice va (LL.length + 1) vcap).ownBlock ≠ some bx := ⟨_, _, rfl, hm6, fun e => by rcases hob with h | h; exact HNE.out (h.symm.trans e); rw [h] at e; have e := Option.some.inj e; have := X5.out.lt; have := hg.size; omega⟩;have hG2 := Aft.of (K := kdStp) (S := fun _ => False) HO5.out HWS5.out hg hgr;exact hK.out _ _ hG2 (fun _ => hp) (fPass rfl)
       case tlast =>
        intro a w' hoff hg hf;replace hg : Aft w5 w2.heap.size u4 w' := hg;obtain ⟨v0, e0, f0⟩ := hf 0 _ 31 (by decide) rfl rfl;obtain rfl : u4 = v0 := Eq.symm f0;obtain ⟨_, e1, rfl⟩ := hf 1 _ 32 (by decide) rfl rfl;obtain ⟨_, e2, rfl⟩ := hf 2 _ 33 (by decide) rfl rfl;obtain ⟨_, e3, rfl⟩ := hf 3 _ 34 (by decide) rfl rfl;obtain ⟨_, e4, rfl⟩ := hf 4 _ 35 (by decide) rfl rfl;obtain ⟨_, e5, rfl⟩ := hf 5 _ 36 (by decide) rfl rfl;obtain ⟨_, e6, rfl⟩ := hf 6 _ 37 (by decide) rfl rfl;obtain ⟨_, e7, rfl⟩ := hf 7 _ 38 (by decide) rfl rfl;obtain ⟨_, e8, rfl⟩ := hf 8 _ 39 (by decide) rfl rfl;obtain ⟨_, e9, rfl⟩ := hf 9 _ 40 (by decide) rfl rfl;obtain ⟨_, e10, rfl⟩ := hf 10 _ 41 (by decide) rfl rfl;obtain ⟨_, e11, rfl⟩ := hf 11 _ 42 (by decide) rfl rfl;obtain ⟨_, e12, rfl⟩ := hf 12 _ 43 (by decide) rfl rfl;obtain ⟨v13, e13, -⟩ := hf 13 _ 44 (by decide) rfl rfl;obtain ⟨v14, e14, f14⟩ := hf 14 _ 45 (by decide) rfl rfl;have g14 : ∃ a cap, v14 = .slice a (LL.length + 1) cap ∧ StOwn w' w2.heap.size (LL ++ [⟨A, Bn, Rn⟩]) v14 ∧ v14.ownBlock ≠ some bx := f14 rfl;clear f14;obtain ⟨va, vcap, rfl, hm6, hob⟩ := g14;rw [if_pos (by rfl)];rw [hoff.sets [(31, u4), (32, .map (some mb)), (33, .pointer (some ⟨bx, 1, none⟩)), (34, .string r.head), (35, .int .i64 (A : Int)), (36, .map (some mb)), (37, .pointer (some ⟨bl, 1, none⟩)), (38, .string z.name), (39, .int .i64 (Bn : Int)), (40, .agg #[.string r.label, .string r.head, .slice fa2 r.args.length fc2, .string r.agg, .int .i64 r.at', (.slice (some ⟨ib, io, none⟩) r.body.length gc)]), (41, .agg #[.int .i64 z.kind, .string z.name, .slice ha z.args.length hc]), (42, .int .i64 (Rn : Int)), (43, .agg #[.int .i64 (A : Int), .int .i64 (Bn : Int), .int .i64 (Rn : Int)]), (44, v13), (45, .slice va (LL.length + 1) vcap)] (by kernel_rfl) (by intro p hp; simp only [List.mem_cons, List.not_mem_nil, or_false] at hp; rcases hp with rfl | rfl | rfl | rfl | rfl | rfl | rfl | rfl | rfl | rfl | rfl | rfl | rfl | rfl | rfl <;> assumption)];clear hoff hf e0 e1 e2 e3 e4 e5 e6 e7 e8 e9 e10 e11 e12 e13 e14;simp only [List.foldl_cons, List.foldl_nil, List.setIfInBounds_toArray, List.set_cons_zero, List.set_cons_succ]
        go_simp;have HKO : Hid (StOwn w' w2.heap.size ((p.rules.take k).flatMap (ruSteps p.decls) ++ (r.body.take (m + 1)).flatMap (litSteps p.decls r)) (.slice va (LL.length + 1) vcap)) := by show StOwn _ _ _ _; rw [HNX.out]; exact hm6
        have HKB : Hid (Below w2.heap.size w2 w') := below2 HB5.out hg.below;have HKX : Hid (BoxRu w' bx (.string r.label) (.string r.head) (.slice fa2 r.args.length fc2) (.string r.agg) (.int .i64 r.at') (.slice (some ⟨ib, io, none⟩) r.body.length gc)) := (hg.block bx X5.out.lt HNE.out).trans X5.out;have HKN := Lib.hid hob;clear hg hm6 hob;go_wp2_with fail
        go_roundw
        case rel => exact ⟨m + 1, hml, by go_num, HKO, HKB, HKX, HKN⟩
        case measure => simp [intOf]; omega
      | false =>
       have HK : Hid (StOwn w5 w2.heap.size ((p.rules.take k).flatMap (ruSteps p.decls) ++ (r.body.take (m + 1)).flatMap (litSteps p.decls r)) u4) := by
        show StOwn _ _ _ _
        rw [HTM.out, HNONE.out (by rintro (h | h) <;> simp [h] at hk1 hk2), List.append_nil];exact HO5.out
       clear HKIND HNONE HA20 HTM;go_wp2_with fail
       go_roundw
       case rel => exact ⟨m + 1, hml, by go_num, HK, HB5, X5, hne⟩
       case measure => simp [intOf]; omega
    ·
     have hml2 : m = r.body.length := by omega
     subst hml2
     have HK : Hid (StOwn wr w2.heap.size ((p.rules.take (k + 1)).flatMap (ruSteps p.decls)) u4) := by
      show StOwn _ _ _ _
      have h := hown.out;rw [List.take_length] at h;rw [HTK.out];exact h
     have hdn := HDN.out;go_wp2_with fail
     go_roundw
     case rel => exact ⟨k + 1, hl, by go_num, HK, hbel⟩
     case measure => simp [intOf]; omega
  ·
   have hkl : k = p.rules.length := by omega
   subst hkl
   have HK : Hid (StOwn wr w.heap.size (prSteps p) u4) := by
    show StOwn _ _ _ _
    have h := hown.out;rw [List.take_length] at h;exact StOwn.down h B2.out.size
   go_wp2_with fail
   go_ret
   exact ⟨_, rfl, HK.out, below2 B2.out (hbel.out.mono B2.out.size)⟩
end Go.Proofs.YtjmnnjikmmglpaaGreat
