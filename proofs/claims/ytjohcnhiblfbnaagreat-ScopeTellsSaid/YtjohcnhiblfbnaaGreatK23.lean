/-
  RefSixCheck
-/
import Derived.Test.YtjohcnhiblfbnaaGreatK17
import Derived.Test.YtjohcnhiblfbnaaGreatK18
import Derived.Test.YtjohcnhiblfbnaaGreatK22
namespace Go.Proofs.YtjohcnhiblfbnaaGreat
open Go.RowKit
theorem inB_snoc (l : List ByteArray) (x s : ByteArray) : inB (l ++ [x]) s = (inB l s || (x.toList == s.toList)) := by
 rw [inB_eq, inB_eq, List.any_append]; simp
theorem onceB_hit (l : List De) : ∀ (seen : List ByteArray) (k : Nat) (h : k < l.length), inB (seen ++ (l.take k).map De.name) l[k].name = true → onceB seen l = false := by
 induction l with
 | nil => intro _ k h; simp at h
 | cons d l ih =>
  intro seen k h hin
  cases k with
  | zero => rw [onceB]; simp at hin; rw [hin]; rfl
  | succ k =>
   rw [onceB, ih (seen ++ [d.name]) k (by simpa using h) (by simpa using hin), Bool.and_false]
theorem onceB_all (l : List De) : ∀ (seen : List ByteArray), (∀ k (h : k < l.length), inB (seen ++ (l.take k).map De.name) l[k].name = false) → onceB seen l = true := by
 induction l with
 | nil => intro _ _; rfl
 | cons d l ih =>
  intro seen h;have h0 := h 0 (by simp);simp at h0
  rw [onceB, h0, ih (seen ++ [d.name]) (fun k hk => by have := h (k + 1) (by simpa using hk); simpa using this)]; rfl
set_option maxRecDepth 100000 in
set_option maxHeartbeats 8000000 in
theorem check6_any (p : Pr) (S : Nat → Prop) (w : World) (c0 c1 c2 : Value) (hS : ∀ k, S k → k < w.heap.size) (hp : RepPr S w p c0 c1 c2) :
  Calls Tryz.prog 13 #[.agg #[c0, c1, c2]] w fun e w' => e = .returned (.tuple #[.int .i64 (checkZ p).1, .int .i64 (checkZ p).2]) ∧ Below w.heap.size w w' := by
 have hlb := SlG.bytes hp.2.2;have HP := Lib.hid hp; have HS := Lib.hid hS
 obtain ⟨ma0, ma1, rfl⟩ := SlG.form hp.1;obtain ⟨mf0, mf1, rfl⟩ := SlG.form hp.2.1;obtain ⟨mr0, mr1, rfl⟩ := SlG.form hp.2.2;clear hp hS;go_enter Tryz.func13, Tryz.ntmps13
 go_wp2_with fail
 have x0 := boxPr_new w (.slice ma0 p.decls.length ma1) (.slice mf0 p.facts.length mf1) (.slice mr0 p.rules.length mr1);have d0 := below_alloc w (.cells #[.slice ma0 p.decls.length ma1, .slice mf0 p.facts.length mf1, .slice mr0 p.rules.length mr1] 26);generalize w.alloc (.cells #[.slice ma0 p.decls.length ma1, .slice mf0 p.facts.length mf1, .slice mr0 p.rules.length mr1] 26) = w1 at *;have X1 := Lib.hid x0; have B1 := Lib.hid d0
 have P1 := Lib.hid (RepPr.on (S' := fun k => k < w.heap.size) HS.out (fun k hk => d0.block k (HS.out k hk)) HP.out);clear x0 d0 HP HS;obtain ⟨p0, p1, p2⟩ := X1.out.cells;go_wp2_with fail
 refine (refPrRight_any p (fun k => k < w.heap.size) w1 _ _ _ (fun k hk => Nat.lt_of_lt_of_le hk B1.out.size) P1.out).mono ?_;rintro e w2 ⟨rfl, hb⟩;have X2 := Lib.hid (X1.out.on hb); have B2 := Lib.hid (Below.step B1.out hb)
 have P2 := Lib.hid (RepPr.on (fun _ h => h) (fun k (hk : k < w.heap.size) => hb.block k (Nat.lt_of_lt_of_le hk B1.out.size)) P1.out);clear hb p0 p1 p2 X1 B1 P1;obtain ⟨p0, p1, p2⟩ := X2.out.cells
 cases hc1 : prB p with
 | false =>
  have HF : Hid (checkZ p = (40, -1)) := by show _ = _; rw [checkZ, hc1]; rfl
  clear hc1;go_wp2_with fail
  go_ret2
  exact ⟨ret_ii HF.out, B2.out⟩
 | true =>
  have HC1 := Lib.hid hc1
  have HFW : Hid (p.decls.length ≤ 64 ∧ p.facts.length ≤ 64 ∧ p.rules.length ≤ 64 ∧ ∀ x ∈ p.rules, ruB x = true) := by
   show _ ∧ _ ∧ _ ∧ _
   rw [prB] at hc1;simp only [Bool.and_eq_true] at hc1
   have h1 := listB_bounds hc1.1; have h2 := listB_bounds hc1.2.1; have h3 := listB_bounds hc1.2.2
   exact ⟨by omega, by omega, by omega, h3.2.2⟩
  clear hc1;go_wp2_with fail
  clear p0 p1 p2;go_loopw [5, 6] (fun iv _ wr => ∃ i : Nat, i ≤ p.decls.length ∧ iv = .int .i64 (i : Int) ∧ Hid (∀ k (h : k < p.decls.length), k < i → inB ((p.decls.take k).map De.name) p.decls[k].name = false) ∧ Hid (Below w2.heap.size w2 wr)) (fun iv _ _ => p.decls.length - (intOf iv).toNat)
  case atStart => exact ⟨0, Nat.zero_le _, rfl, fun k _ h => absurd h (by omega), Below.refl _ _⟩
  case round =>
   obtain ⟨i, hi, rfl, HOK, HBI⟩ := hrel;have hf := HFW.out;obtain ⟨p0, p1, p2⟩ := (X2.out.on HBI.out).cells
   by_cases hl : i < p.decls.length
   ·have i1 : decide ((i : Int) < (p.decls.length : Int)) = true := decide_eq_true (by omega)
    have i2 : decide (i < p.decls.length) = true := decide_eq_true hl;have HIL : Hid (i < p.decls.length ∧ p.decls.length ≤ 64) := ⟨hl, hf.1⟩;go_wp2_with fail
    clear p0 p1 p2 i1 i2;generalize wr = wo at *;go_loopw [6] (fun kv wr => ∃ k : Nat, k ≤ i ∧ kv = .int .i64 (k : Int) ∧ Hid (inB ((p.decls.take k).map De.name) p.decls[i].name = false) ∧ Hid (Below w2.heap.size w2 wr)) (fun kv _ => i - (intOf kv).toNat)
    case atStart => exact ⟨0, Nat.zero_le _, rfl, rfl, HBI.out⟩
    case round =>
     obtain ⟨k, hk, rfl, HNO, HBK⟩ := hrel;have XK := Lib.hid (X2.out.on HBK.out)
     by_cases hki : k < i
     ·have j1 : decide ((k : Int) < (i : Int)) = true := decide_eq_true (by omega)
      have j2 : decide (k < i) = true := decide_eq_true hki;have P5 := Lib.hid (RepPr.on (fun _ h => h) (fun k (hk : k < w.heap.size) => HBK.out.block k (Nat.lt_of_lt_of_le hk B2.out.size)) P2.out);obtain ⟨-, -, db, dq, hda, -, a0, -, -⟩ := RepDes.at P5.out.1 k (by omega);obtain ⟨-, -, db2, dq2, hda2, hdb, b0, -, -⟩ := RepDes.at P5.out.1 i hl;rw [hda] at hda2
      injection hda2 with hda2
      injection hda2 with h1 h2
      subst h1 h2;obtain ⟨nb, hnb⟩ : ∃ b, (p.decls[k].name.toList == p.decls[i].name.toList) = b := ⟨_, rfl⟩;have HNB := Lib.hid hnb;have HDB : Hid (db < wr.heap.size) := Nat.lt_of_lt_of_le hdb (Below.step B2.out HBK.out).size
      have HNX : Hid (inB ((p.decls.take (k + 1)).map De.name) p.decls[i].name = (inB ((p.decls.take k).map De.name) p.decls[i].name || nb)) := by
       show _ = _; rw [take_names De.name p.decls (by omega : k < p.decls.length), inB_snoc, hnb]
      have HKK : Hid ((0 : Int) ≤ (k : Int) ∧ (k : Int) < (p.decls.length : Int) ∧ (0 : Int) ≤ (i : Int) ∧ (i : Int) < (p.decls.length : Int)) := ⟨by omega, by omega, by omega, by omega⟩;have HKI : Hid (k < i) := hki;have HGA := Lib.hid hda;have A0 := Lib.hid a0; have B0 := Lib.hid b0
      clear hnb hdb a0 b0 hda P5
      have HHIT : Hid (nb = true → onceB [] p.decls = false) := fun e => by
       subst e;refine onceB_hit p.decls [] i hl ?_;have h1 := HNX.out;rw [Bool.or_true] at h1;rw [List.nil_append, inB_iff];rw [inB_iff] at h1;obtain ⟨d, hd, he⟩ := List.mem_map.1 h1;exact List.mem_map.2 ⟨d, List.take_subset_take_left p.decls hki hd, he⟩
      generalize p.decls[k] = zk at *;obtain ⟨zi, hzi⟩ : ∃ z, p.decls[i] = z := ⟨_, rfl⟩;rw [hzi] at HNB B0;go_upto_region 10 with fail
      clear j1 j2;refine wp_region_factsG (by rfl) 80 (by rfl) (by kernel_rfl) (fun _ iz vz => (iz = 0 → vz = .pointer (some ⟨w.heap.size, 0, none⟩)) ∧ (iz = 1 → vz = .slice (some ⟨db, dq, none⟩) p.decls.length ma1) ∧ (iz = 2 → vz = .int .i64 (k : Int)) ∧ (iz = 3 → vz = .pointer (some ⟨db, dq + k * 2, none⟩)) ∧ (iz = 4 → vz = .pointer (some ⟨db, dq + k * 2, none⟩)) ∧ (iz = 5 → vz = .string zk.name) ∧ (iz = 6 → vz = .pointer (some ⟨w.heap.size, 0, none⟩)) ∧ (iz = 7 → vz = .slice (some ⟨db, dq, none⟩) p.decls.length ma1) ∧ (iz = 8 → vz = .int .i64 (i : Int)) ∧ (iz = 9 → vz = .pointer (some ⟨db, dq + i * 2, none⟩)) ∧ (iz = 10 → vz = .pointer (some ⟨db, dq + i * 2, none⟩)) ∧ (iz = 11 → vz = .string zi.name) ∧ (iz = 12 → vz = .bool nb)) (fun w' => Below wr.heap.size wr w') (Below.drew (Below.refl _ _)) ⟨?rcs0, ?rcs1, ?rcs2, ?rcs3, ?rcs4, ?rcs5, ?rcs6, ?rcs7, ?rcs8, ?rcs9, ?rcs10, ?rcs11, ?rcs12, trivial⟩ ?rcfin
      case rcs0 =>
       intro a w' hoff hg hdep K hK;have h1 := off_at hoff 1 (v := .pointer (some ⟨w.heap.size, 0, none⟩)) (by kernel_rfl) rfl;rw [if_pos (by rfl)];go_simp;exact hK.out _ _ hg ⟨fun _ => rfl, nn,nn,nn,nn,nn,nn,nn,nn,nn,nn,nn,nn⟩ (fun _ _ h => h)
      case rcs1 =>
       intro a w' hoff hg hdep K hK;obtain ⟨v0, e0, f0⟩ := hdep 0 _ 26 (by kernel_rfl) rfl rfl;obtain rfl := (f0.1 rfl).symm;rw [if_pos (by rfl)];obtain ⟨p0, p1, p2⟩ := (XK.out.on hg).cells; rw [HGA.out] at p0; have a0 := (hg.cell (p := ⟨db, dq + k * 2, none⟩) HDB.out).trans A0.out; have b0 := (hg.cell (p := ⟨db, dq + i * 2, none⟩) HDB.out).trans B0.out
       go_simp;exact hK.out _ _ hg ⟨nn, fun _ => rfl, nn,nn,nn,nn,nn,nn,nn,nn,nn,nn,nn⟩ (fun _ _ h => h)
      case rcs2 =>
       intro a w' hoff hg hdep K hK;have h6 := off_at hoff 6 (v := .int .i64 (k : Int)) (by kernel_rfl) rfl;rw [if_pos (by rfl)];go_simp;exact hK.out _ _ hg ⟨nn,nn, fun _ => rfl, nn,nn,nn,nn,nn,nn,nn,nn,nn,nn⟩ (fun _ _ h => h)
      case rcs3 =>
       intro a w' hoff hg hdep K hK;obtain ⟨v1, e1, f1⟩ := hdep 1 _ 27 (by kernel_rfl) rfl rfl;obtain rfl := (f1.2.1 rfl).symm;obtain ⟨v2, e2, f2⟩ := hdep 2 _ 28 (by kernel_rfl) rfl rfl;obtain rfl := (f2.2.2.1 rfl).symm;rw [if_pos (by rfl)];obtain ⟨hk1, hk2, hk3, hk4⟩ := HKK.out;go_simp;exact hK.out _ _ hg ⟨nn,nn,nn, fun _ => rfl, nn,nn,nn,nn,nn,nn,nn,nn,nn⟩ (fun _ _ h => h)
      case rcs4 =>
       intro a w' hoff hg hdep K hK;obtain ⟨v3, e3, f3⟩ := hdep 3 _ 29 (by kernel_rfl) rfl rfl;obtain rfl := (f3.2.2.2.1 rfl).symm;rw [if_pos (by rfl)];go_simp;exact hK.out _ _ hg ⟨nn,nn,nn,nn, fun _ => rfl, nn,nn,nn,nn,nn,nn,nn,nn⟩ (fun _ _ h => h)
      case rcs5 =>
       intro a w' hoff hg hdep K hK;obtain ⟨v4, e4, f4⟩ := hdep 4 _ 30 (by kernel_rfl) rfl rfl;obtain rfl := (f4.2.2.2.2.1 rfl).symm;rw [if_pos (by rfl)];obtain ⟨p0, p1, p2⟩ := (XK.out.on hg).cells; rw [HGA.out] at p0; have a0 := (hg.cell (p := ⟨db, dq + k * 2, none⟩) HDB.out).trans A0.out; have b0 := (hg.cell (p := ⟨db, dq + i * 2, none⟩) HDB.out).trans B0.out
       go_simp;exact hK.out _ _ hg ⟨nn,nn,nn,nn,nn, fun _ => rfl, nn,nn,nn,nn,nn,nn,nn⟩ (fun _ _ h => h)
      case rcs6 =>
       intro a w' hoff hg hdep K hK;have h1 := off_at hoff 1 (v := .pointer (some ⟨w.heap.size, 0, none⟩)) (by kernel_rfl) rfl;rw [if_pos (by rfl)];go_simp;exact hK.out _ _ hg ⟨nn,nn,nn,nn,nn,nn, fun _ => rfl, nn,nn,nn,nn,nn,nn⟩ (fun _ _ h => h)
      case rcs7 =>
       intro a w' hoff hg hdep K hK;obtain ⟨v6, e6, f6⟩ := hdep 6 _ 32 (by kernel_rfl) rfl rfl;obtain rfl := (f6.2.2.2.2.2.2.1 rfl).symm;rw [if_pos (by rfl)];obtain ⟨p0, p1, p2⟩ := (XK.out.on hg).cells; rw [HGA.out] at p0; have a0 := (hg.cell (p := ⟨db, dq + k * 2, none⟩) HDB.out).trans A0.out; have b0 := (hg.cell (p := ⟨db, dq + i * 2, none⟩) HDB.out).trans B0.out
       go_simp;exact hK.out _ _ hg ⟨nn,nn,nn,nn,nn,nn,nn, fun _ => rfl, nn,nn,nn,nn,nn⟩ (fun _ _ h => h)
      case rcs8 =>
       intro a w' hoff hg hdep K hK;have h5 := off_at hoff 5 (v := .int .i64 (i : Int)) (by kernel_rfl) rfl;rw [if_pos (by rfl)];go_simp;exact hK.out _ _ hg ⟨nn,nn,nn,nn,nn,nn,nn,nn, fun _ => rfl, nn,nn,nn,nn⟩ (fun _ _ h => h)
      case rcs9 =>
       intro a w' hoff hg hdep K hK;obtain ⟨v7, e7, f7⟩ := hdep 7 _ 33 (by kernel_rfl) rfl rfl;obtain rfl := (f7.2.2.2.2.2.2.2.1 rfl).symm;obtain ⟨v8, e8, f8⟩ := hdep 8 _ 34 (by kernel_rfl) rfl rfl;obtain rfl := (f8.2.2.2.2.2.2.2.2.1 rfl).symm;rw [if_pos (by rfl)];obtain ⟨hk1, hk2, hk3, hk4⟩ := HKK.out;go_simp;exact hK.out _ _ hg ⟨nn,nn,nn,nn,nn,nn,nn,nn,nn, fun _ => rfl, nn,nn,nn⟩ (fun _ _ h => h)
      case rcs10 =>
       intro a w' hoff hg hdep K hK;obtain ⟨v9, e9, f9⟩ := hdep 9 _ 35 (by kernel_rfl) rfl rfl;obtain rfl := (f9.2.2.2.2.2.2.2.2.2.1 rfl).symm;rw [if_pos (by rfl)];go_simp;exact hK.out _ _ hg ⟨nn,nn,nn,nn,nn,nn,nn,nn,nn,nn, fun _ => rfl, nn,nn⟩ (fun _ _ h => h)
      case rcs11 =>
       intro a w' hoff hg hdep K hK;obtain ⟨v10, e10, f10⟩ := hdep 10 _ 36 (by kernel_rfl) rfl rfl;obtain rfl := (f10.2.2.2.2.2.2.2.2.2.2.1 rfl).symm;rw [if_pos (by rfl)];obtain ⟨p0, p1, p2⟩ := (XK.out.on hg).cells; rw [HGA.out] at p0; have a0 := (hg.cell (p := ⟨db, dq + k * 2, none⟩) HDB.out).trans A0.out; have b0 := (hg.cell (p := ⟨db, dq + i * 2, none⟩) HDB.out).trans B0.out
       go_simp;exact hK.out _ _ hg ⟨nn,nn,nn,nn,nn,nn,nn,nn,nn,nn,nn, fun _ => rfl, nn⟩ (fun _ _ h => h)
      case rcs12 =>
       intro a w' hoff hg hdep K hK;obtain ⟨v5, e5, f5⟩ := hdep 5 _ 31 (by kernel_rfl) rfl rfl;obtain rfl := (f5.2.2.2.2.2.1 rfl).symm;obtain ⟨v11, e11, f11⟩ := hdep 11 _ 37 (by kernel_rfl) rfl rfl;obtain rfl := (f11.2.2.2.2.2.2.2.2.2.2.2.1 rfl).symm;rw [if_pos (by rfl)];have hnb := HNB.out;go_simp;exact hK.out _ _ hg ⟨nn,nn,nn,nn,nn,nn,nn,nn,nn,nn,nn,nn, fun _ => rfl⟩ (fun _ _ h => h)
      intro a w9 hoff hg hf;obtain ⟨v0, e0, f0⟩ := hf 0 _ 26 rfl rfl;obtain rfl := (f0.1 rfl).symm;obtain ⟨v1, e1, f1⟩ := hf 1 _ 27 rfl rfl;obtain rfl := (f1.2.1 rfl).symm;obtain ⟨v2, e2, f2⟩ := hf 2 _ 28 rfl rfl;obtain rfl := (f2.2.2.1 rfl).symm;obtain ⟨v3, e3, f3⟩ := hf 3 _ 29 rfl rfl;obtain rfl := (f3.2.2.2.1 rfl).symm;obtain ⟨v4, e4, f4⟩ := hf 4 _ 30 rfl rfl;obtain rfl := (f4.2.2.2.2.1 rfl).symm;obtain ⟨v5, e5, f5⟩ := hf 5 _ 31 rfl rfl;obtain rfl := (f5.2.2.2.2.2.1 rfl).symm;obtain ⟨v6, e6, f6⟩ := hf 6 _ 32 rfl rfl;obtain rfl := (f6.2.2.2.2.2.2.1 rfl).symm;obtain ⟨v7, e7, f7⟩ := hf 7 _ 33 rfl rfl;obtain rfl := (f7.2.2.2.2.2.2.2.1 rfl).symm;obtain ⟨v8, e8, f8⟩ := hf 8 _ 34 rfl rfl;obtain rfl := (f8.2.2.2.2.2.2.2.2.1 rfl).symm;obtain ⟨v9, e9, f9⟩ := hf 9 _ 35 rfl rfl;obtain rfl := (f9.2.2.2.2.2.2.2.2.2.1 rfl).symm;obtain ⟨v10, e10, f10⟩ := hf 10 _ 36 rfl rfl;obtain rfl := (f10.2.2.2.2.2.2.2.2.2.2.1 rfl).symm;obtain ⟨v11, e11, f11⟩ := hf 11 _ 37 rfl rfl;obtain rfl := (f11.2.2.2.2.2.2.2.2.2.2.2.1 rfl).symm;obtain ⟨v12, e12, f12⟩ := hf 12 _ 38 rfl rfl;obtain rfl := (f12.2.2.2.2.2.2.2.2.2.2.2.2 rfl).symm;rw [hoff.sets [(26, .pointer (some ⟨w.heap.size, 0, none⟩)), (27, .slice (some ⟨db, dq, none⟩) p.decls.length ma1), (28, .int .i64 (k : Int)), (29, .pointer (some ⟨db, dq + k * 2, none⟩)), (30, .pointer (some ⟨db, dq + k * 2, none⟩)), (31, .string zk.name), (32, .pointer (some ⟨w.heap.size, 0, none⟩)), (33, .slice (some ⟨db, dq, none⟩) p.decls.length ma1), (34, .int .i64 (i : Int)), (35, .pointer (some ⟨db, dq + i * 2, none⟩)), (36, .pointer (some ⟨db, dq + i * 2, none⟩)), (37, .string zi.name), (38, .bool nb)] (by kernel_rfl) (by intro p hp; simp only [List.mem_cons, List.not_mem_nil, or_false] at hp; rcases hp with rfl | rfl | rfl | rfl | rfl | rfl | rfl | rfl | rfl | rfl | rfl | rfl | rfl <;> assumption)];clear hoff hf e0 f0 e1 f1 e2 f2 e3 f3 e4 f4 e5 f5 e6 f6 e7 f7 e8 f8 e9 f9 e10 f10 e11 f11 e12 f12;simp only [List.foldl_cons, List.foldl_nil, List.setIfInBounds_toArray, List.set_cons_zero, List.set_cons_succ]
      have HBX := Lib.hid (Below.step HBK.out hg);clear hg
      cases nb with
      | true =>
       have HF : Hid (checkZ p = (60, -1)) := by show _ = _; rw [checkZ, HC1.out, HHIT.out rfl]; rfl
       go_wp2_with fail
       go_ret2
       exact ⟨ret_ii HF.out, Below.step B2.out HBX.out⟩
      | false =>
       have HNY : Hid (inB ((p.decls.take (k + 1)).map De.name) p.decls[i].name = false) := by show _ = _; rw [HNX.out, HNO.out]; rfl
       go_wp2_with fail
       go_roundw
       case rel => exact ⟨k + 1, HKI.out, by go_num, HNY, HBX⟩
       case measure => have := HKI.out; simp [intOf]; omega
     ·have j1 : decide ((k : Int) < (i : Int)) = false := decide_eq_false (by omega)
      have j2 : decide (k < i) = false := decide_eq_false hki;obtain rfl : k = i := by omega
      have HOK2 : Hid (∀ m (h : m < p.decls.length), m < k + 1 → inB ((p.decls.take m).map De.name) p.decls[m].name = false) := fun m h hm => by
       by_cases hmk : m < k
       ·exact HOK.out m h hmk
       ·obtain rfl : m = k := by omega
        exact HNO.out
      go_wp2_with fail
      go_roundw
      case rel => exact ⟨k + 1, HIL.out.1, by go_num, HOK2, HBK⟩
      case measure => have := HIL.out; simp [intOf]; omega
   ·have i1 : decide ((i : Int) < (p.decls.length : Int)) = false := decide_eq_false (by omega)
    have i2 : decide (i < p.decls.length) = false := decide_eq_false hl;have HC2 : Hid (onceB [] p.decls = true) := onceB_all p.decls [] fun k h => by rw [List.nil_append]; exact HOK.out k h (by omega)
    clear HOK hf;have X3 := Lib.hid (X2.out.on HBI.out); have B3 := Lib.hid (Below.step B2.out HBI.out)
    have P3 := Lib.hid (RepPr.on (fun _ h => h) (fun k (hk : k < w.heap.size) => HBI.out.block k (Nat.lt_of_lt_of_le hk B2.out.size)) P2.out);clear HBI X2 B2 P2 hi hl;generalize wr = w3 at *;go_wp2_with fail
    clear p0 p1 p2 i1 i2;go_loopw [7] (fun iv wr => ∃ k : Nat, k ≤ p.facts.length ∧ iv = .int .i64 (k : Int) ∧ Hid (p.facts.all (factB p.decls) = (p.facts.drop k).all (factB p.decls)) ∧ Hid (Below w3.heap.size w3 wr)) (fun iv _ => p.facts.length - (intOf iv).toNat)
    case atStart => exact ⟨0, Nat.zero_le _, rfl, rfl, Below.refl _ _⟩
    case round =>
     obtain ⟨k, hk, rfl, hrec, HBK⟩ := hrel;have hf := HFW.out;have XK := Lib.hid (X3.out.on HBK.out);obtain ⟨p0, p1, p2⟩ := XK.out.cells;have PW := Lib.hid (RepPr.on (fun _ h => h) (fun k (hk : k < w.heap.size) => HBK.out.block k (Nat.lt_of_lt_of_le hk B3.out.size)) P3.out);have BW : Hid (Below w.heap.size w wr) := Below.step B3.out HBK.out
     by_cases hl : k < p.facts.length
     ·have i1 : decide ((k : Int) < (p.facts.length : Int)) = true := decide_eq_true (by omega)
      have i2 : decide (k < p.facts.length) = true := decide_eq_true hl;obtain ⟨-, -, fb, fq, ga, gc, hfa, hSb, a0, a1, -⟩ := RepFas.at PW.out.2.1 k hl;have HD := Lib.hid (List.drop_eq_getElem_cons hl);have HKL : Hid (k < p.facts.length ∧ p.facts.length ≤ 64) := ⟨hl, hf.2.1⟩;have HKK : Hid ((0 : Int) ≤ (k : Int) ∧ (k : Int) < (p.facts.length : Int)) := ⟨by omega, by omega⟩;have HFB : Hid (fb < wr.heap.size) := Nat.lt_of_lt_of_le hSb BW.out.size;have HGA := Lib.hid hfa; have A0 := Lib.hid a0; have A1 := Lib.hid a1
      clear hSb a0 a1 hfa;generalize p.facts[k] = z at *;obtain ⟨nb, hnb⟩ : ∃ b, (arityL p.decls z.name != (z.args.length : Int)) = b := ⟨_, rfl⟩;have HNB := Lib.hid hnb;clear hnb;go_upto_region 15 with fail
      clear p0 p1 p2 i1 i2;refine wp_region_factsG (by rfl) 80 (by rfl) (by kernel_rfl) (fun _ iz vz => (iz = 0 → vz = .agg #[.slice ma0 p.decls.length ma1, .slice (some ⟨fb, fq, none⟩) p.facts.length mf1, .slice mr0 p.rules.length mr1]) ∧ (iz = 1 → vz = .pointer (some ⟨w.heap.size, 1, none⟩)) ∧ (iz = 2 → vz = .slice (some ⟨fb, fq, none⟩) p.facts.length mf1) ∧ (iz = 3 → vz = .int .i64 (k : Int)) ∧ (iz = 4 → vz = .pointer (some ⟨fb, fq + k * 2, none⟩)) ∧ (iz = 5 → vz = .pointer (some ⟨fb, fq + k * 2, none⟩)) ∧ (iz = 6 → vz = .string z.name) ∧ (iz = 7 → vz = .int .i64 (arityL p.decls z.name)) ∧ (iz = 8 → vz = .pointer (some ⟨w.heap.size, 1, none⟩)) ∧ (iz = 9 → vz = .slice (some ⟨fb, fq, none⟩) p.facts.length mf1) ∧ (iz = 10 → vz = .int .i64 (k : Int)) ∧ (iz = 11 → vz = .pointer (some ⟨fb, fq + k * 2, none⟩)) ∧ (iz = 12 → vz = .pointer (some ⟨fb, fq + k * 2 + 1, none⟩)) ∧ (iz = 13 → vz = .slice ga z.args.length gc) ∧ (iz = 14 → vz = .int .i64 (z.args.length : Int)) ∧ (iz = 15 → vz = .bool nb)) (fun w' => Below wr.heap.size wr w') (Below.drew (Below.refl _ _)) ⟨?rds0, ?rds1, ?rds2, ?rds3, ?rds4, ?rds5, ?rds6, ?rds7, ?rds8, ?rds9, ?rds10, ?rds11, ?rds12, ?rds13, ?rds14, ?rds15, trivial⟩ ?rdfin
      case rds0 =>
       intro a w' hoff hg hdep K hK;have h1 := off_at hoff 1 (v := .pointer (some ⟨w.heap.size, 0, none⟩)) (by kernel_rfl) rfl;rw [if_pos (by rfl)];obtain ⟨p0, p1, p2⟩ := (XK.out.on hg).cells; rw [HGA.out] at p1; have a0 := (hg.cell (p := ⟨fb, fq + k * 2, none⟩) HFB.out).trans A0.out; have a1 := (hg.cell (p := ⟨fb, fq + k * 2 + 1, none⟩) HFB.out).trans A1.out
       go_simp;exact hK.out _ _ hg ⟨fun _ => rfl, nn,nn,nn,nn,nn,nn,nn,nn,nn,nn,nn,nn,nn,nn,nn⟩ (fun _ _ h => h)
      case rds1 =>
       intro a w' hoff hg hdep K hK;have h1 := off_at hoff 1 (v := .pointer (some ⟨w.heap.size, 0, none⟩)) (by kernel_rfl) rfl;rw [if_pos (by rfl)];go_simp;exact hK.out _ _ hg ⟨nn, fun _ => rfl, nn,nn,nn,nn,nn,nn,nn,nn,nn,nn,nn,nn,nn,nn⟩ (fun _ _ h => h)
      case rds2 =>
       intro a w' hoff hg hdep K hK;obtain ⟨v1, e1, f1⟩ := hdep 1 _ 47 (by kernel_rfl) rfl rfl;obtain rfl := (f1.2.1 rfl).symm;rw [if_pos (by rfl)];obtain ⟨p0, p1, p2⟩ := (XK.out.on hg).cells; rw [HGA.out] at p1; have a0 := (hg.cell (p := ⟨fb, fq + k * 2, none⟩) HFB.out).trans A0.out; have a1 := (hg.cell (p := ⟨fb, fq + k * 2 + 1, none⟩) HFB.out).trans A1.out
       go_simp;exact hK.out _ _ hg ⟨nn,nn, fun _ => rfl, nn,nn,nn,nn,nn,nn,nn,nn,nn,nn,nn,nn,nn⟩ (fun _ _ h => h)
      case rds3 =>
       intro a w' hoff hg hdep K hK;have h7 := off_at hoff 7 (v := .int .i64 (k : Int)) (by kernel_rfl) rfl;rw [if_pos (by rfl)];go_simp;exact hK.out _ _ hg ⟨nn,nn,nn, fun _ => rfl, nn,nn,nn,nn,nn,nn,nn,nn,nn,nn,nn,nn⟩ (fun _ _ h => h)
      case rds4 =>
       intro a w' hoff hg hdep K hK;obtain ⟨v2, e2, f2⟩ := hdep 2 _ 48 (by kernel_rfl) rfl rfl;obtain rfl := (f2.2.2.1 rfl).symm;obtain ⟨v3, e3, f3⟩ := hdep 3 _ 49 (by kernel_rfl) rfl rfl;obtain rfl := (f3.2.2.2.1 rfl).symm;rw [if_pos (by rfl)];obtain ⟨hk1, hk2⟩ := HKK.out;go_simp;exact hK.out _ _ hg ⟨nn,nn,nn,nn, fun _ => rfl, nn,nn,nn,nn,nn,nn,nn,nn,nn,nn,nn⟩ (fun _ _ h => h)
      case rds5 =>
       intro a w' hoff hg hdep K hK;obtain ⟨v4, e4, f4⟩ := hdep 4 _ 50 (by kernel_rfl) rfl rfl;obtain rfl := (f4.2.2.2.2.1 rfl).symm;rw [if_pos (by rfl)];go_simp;exact hK.out _ _ hg ⟨nn,nn,nn,nn,nn, fun _ => rfl, nn,nn,nn,nn,nn,nn,nn,nn,nn,nn⟩ (fun _ _ h => h)
      case rds6 =>
       intro a w' hoff hg hdep K hK;obtain ⟨v5, e5, f5⟩ := hdep 5 _ 51 (by kernel_rfl) rfl rfl;obtain rfl := (f5.2.2.2.2.2.1 rfl).symm;rw [if_pos (by rfl)];obtain ⟨p0, p1, p2⟩ := (XK.out.on hg).cells; rw [HGA.out] at p1; have a0 := (hg.cell (p := ⟨fb, fq + k * 2, none⟩) HFB.out).trans A0.out; have a1 := (hg.cell (p := ⟨fb, fq + k * 2 + 1, none⟩) HFB.out).trans A1.out
       go_simp;exact hK.out _ _ hg ⟨nn,nn,nn,nn,nn,nn, fun _ => rfl, nn,nn,nn,nn,nn,nn,nn,nn,nn⟩ (fun _ _ h => h)
      case rds7 =>
       intro a w' hoff hg hdep K hK;obtain ⟨v0, e0, f0⟩ := hdep 0 _ 46 (by kernel_rfl) rfl rfl;obtain rfl := (f0.1 rfl).symm;obtain ⟨v6, e6, f6⟩ := hdep 6 _ 52 (by kernel_rfl) rfl rfl;obtain rfl := (f6.2.2.2.2.2.2.1 rfl).symm;rw [if_pos (by rfl)];go_simp;refine (arity6_any p z.name (fun k => k < w.heap.size) _ _ _ _ (fun k hk => Nat.lt_of_lt_of_le hk (Nat.le_trans BW.out.size hg.size)) (by have h := RepPr.on (fun _ h => h) (fun k (hk : k < w.heap.size) => hg.block k (Nat.lt_of_lt_of_le hk BW.out.size)) PW.out; rw [HGA.out] at h; exact h)).mono ?_;rintro e w5 ⟨rfl, hb⟩;exact hK.out _ _ (Below.step hg hb) ⟨nn,nn,nn,nn,nn,nn,nn, fun _ => rfl, nn,nn,nn,nn,nn,nn,nn,nn⟩ (fun _ _ h => h)
      case rds8 =>
       intro a w' hoff hg hdep K hK;have h1 := off_at hoff 1 (v := .pointer (some ⟨w.heap.size, 0, none⟩)) (by kernel_rfl) rfl;rw [if_pos (by rfl)];go_simp;exact hK.out _ _ hg ⟨nn,nn,nn,nn,nn,nn,nn,nn, fun _ => rfl, nn,nn,nn,nn,nn,nn,nn⟩ (fun _ _ h => h)
      case rds9 =>
       intro a w' hoff hg hdep K hK;obtain ⟨v8, e8, f8⟩ := hdep 8 _ 54 (by kernel_rfl) rfl rfl;obtain rfl := (f8.2.2.2.2.2.2.2.2.1 rfl).symm;rw [if_pos (by rfl)];obtain ⟨p0, p1, p2⟩ := (XK.out.on hg).cells; rw [HGA.out] at p1; have a0 := (hg.cell (p := ⟨fb, fq + k * 2, none⟩) HFB.out).trans A0.out; have a1 := (hg.cell (p := ⟨fb, fq + k * 2 + 1, none⟩) HFB.out).trans A1.out
       go_simp;exact hK.out _ _ hg ⟨nn,nn,nn,nn,nn,nn,nn,nn,nn, fun _ => rfl, nn,nn,nn,nn,nn,nn⟩ (fun _ _ h => h)
      case rds10 =>
       intro a w' hoff hg hdep K hK;have h7 := off_at hoff 7 (v := .int .i64 (k : Int)) (by kernel_rfl) rfl;rw [if_pos (by rfl)];go_simp;exact hK.out _ _ hg ⟨nn,nn,nn,nn,nn,nn,nn,nn,nn,nn, fun _ => rfl, nn,nn,nn,nn,nn⟩ (fun _ _ h => h)
      case rds11 =>
       intro a w' hoff hg hdep K hK;obtain ⟨v9, e9, f9⟩ := hdep 9 _ 55 (by kernel_rfl) rfl rfl;obtain rfl := (f9.2.2.2.2.2.2.2.2.2.1 rfl).symm;obtain ⟨v10, e10, f10⟩ := hdep 10 _ 56 (by kernel_rfl) rfl rfl;obtain rfl := (f10.2.2.2.2.2.2.2.2.2.2.1 rfl).symm;rw [if_pos (by rfl)];obtain ⟨hk1, hk2⟩ := HKK.out;go_simp;exact hK.out _ _ hg ⟨nn,nn,nn,nn,nn,nn,nn,nn,nn,nn,nn, fun _ => rfl, nn,nn,nn,nn⟩ (fun _ _ h => h)
      case rds12 =>
       intro a w' hoff hg hdep K hK;obtain ⟨v11, e11, f11⟩ := hdep 11 _ 57 (by kernel_rfl) rfl rfl;obtain rfl := (f11.2.2.2.2.2.2.2.2.2.2.2.1 rfl).symm;rw [if_pos (by rfl)];go_simp;exact hK.out _ _ hg ⟨nn,nn,nn,nn,nn,nn,nn,nn,nn,nn,nn,nn, fun _ => rfl, nn,nn,nn⟩ (fun _ _ h => h)
      case rds13 =>
       intro a w' hoff hg hdep K hK;obtain ⟨v12, e12, f12⟩ := hdep 12 _ 58 (by kernel_rfl) rfl rfl;obtain rfl := (f12.2.2.2.2.2.2.2.2.2.2.2.2.1 rfl).symm;rw [if_pos (by rfl)];obtain ⟨p0, p1, p2⟩ := (XK.out.on hg).cells; rw [HGA.out] at p1; have a0 := (hg.cell (p := ⟨fb, fq + k * 2, none⟩) HFB.out).trans A0.out; have a1 := (hg.cell (p := ⟨fb, fq + k * 2 + 1, none⟩) HFB.out).trans A1.out
       go_simp;exact hK.out _ _ hg ⟨nn,nn,nn,nn,nn,nn,nn,nn,nn,nn,nn,nn,nn, fun _ => rfl, nn,nn⟩ (fun _ _ h => h)
      case rds14 =>
       intro a w' hoff hg hdep K hK;obtain ⟨v13, e13, f13⟩ := hdep 13 _ 59 (by kernel_rfl) rfl rfl;obtain rfl := (f13.2.2.2.2.2.2.2.2.2.2.2.2.2.1 rfl).symm;rw [if_pos (by rfl)];go_simp;exact hK.out _ _ hg ⟨nn,nn,nn,nn,nn,nn,nn,nn,nn,nn,nn,nn,nn,nn, fun _ => rfl, nn⟩ (fun _ _ h => h)
      case rds15 =>
       intro a w' hoff hg hdep K hK;obtain ⟨v7, e7, f7⟩ := hdep 7 _ 53 (by kernel_rfl) rfl rfl;obtain rfl := (f7.2.2.2.2.2.2.2.1 rfl).symm;obtain ⟨v14, e14, f14⟩ := hdep 14 _ 60 (by kernel_rfl) rfl rfl;obtain rfl := (f14.2.2.2.2.2.2.2.2.2.2.2.2.2.2.1 rfl).symm;rw [if_pos (by rfl)];have hnb := HNB.out;go_simp;exact hK.out _ _ hg ⟨nn,nn,nn,nn,nn,nn,nn,nn,nn,nn,nn,nn,nn,nn,nn, fun _ => rfl⟩ (fun _ _ h => h)
      intro a w9 hoff hg hf;obtain ⟨v0, e0, f0⟩ := hf 0 _ 46 rfl rfl;obtain rfl := (f0.1 rfl).symm;obtain ⟨v1, e1, f1⟩ := hf 1 _ 47 rfl rfl;obtain rfl := (f1.2.1 rfl).symm;obtain ⟨v2, e2, f2⟩ := hf 2 _ 48 rfl rfl;obtain rfl := (f2.2.2.1 rfl).symm;obtain ⟨v3, e3, f3⟩ := hf 3 _ 49 rfl rfl;obtain rfl := (f3.2.2.2.1 rfl).symm;obtain ⟨v4, e4, f4⟩ := hf 4 _ 50 rfl rfl;obtain rfl := (f4.2.2.2.2.1 rfl).symm;obtain ⟨v5, e5, f5⟩ := hf 5 _ 51 rfl rfl;obtain rfl := (f5.2.2.2.2.2.1 rfl).symm;obtain ⟨v6, e6, f6⟩ := hf 6 _ 52 rfl rfl;obtain rfl := (f6.2.2.2.2.2.2.1 rfl).symm;obtain ⟨v7, e7, f7⟩ := hf 7 _ 53 rfl rfl;obtain rfl := (f7.2.2.2.2.2.2.2.1 rfl).symm;obtain ⟨v8, e8, f8⟩ := hf 8 _ 54 rfl rfl;obtain rfl := (f8.2.2.2.2.2.2.2.2.1 rfl).symm;obtain ⟨v9, e9, f9⟩ := hf 9 _ 55 rfl rfl;obtain rfl := (f9.2.2.2.2.2.2.2.2.2.1 rfl).symm;obtain ⟨v10, e10, f10⟩ := hf 10 _ 56 rfl rfl;obtain rfl := (f10.2.2.2.2.2.2.2.2.2.2.1 rfl).symm;obtain ⟨v11, e11, f11⟩ := hf 11 _ 57 rfl rfl;obtain rfl := (f11.2.2.2.2.2.2.2.2.2.2.2.1 rfl).symm;obtain ⟨v12, e12, f12⟩ := hf 12 _ 58 rfl rfl;obtain rfl := (f12.2.2.2.2.2.2.2.2.2.2.2.2.1 rfl).symm;obtain ⟨v13, e13, f13⟩ := hf 13 _ 59 rfl rfl;obtain rfl := (f13.2.2.2.2.2.2.2.2.2.2.2.2.2.1 rfl).symm;obtain ⟨v14, e14, f14⟩ := hf 14 _ 60 rfl rfl;obtain rfl := (f14.2.2.2.2.2.2.2.2.2.2.2.2.2.2.1 rfl).symm;obtain ⟨v15, e15, f15⟩ := hf 15 _ 61 rfl rfl;obtain rfl := (f15.2.2.2.2.2.2.2.2.2.2.2.2.2.2.2 rfl).symm;rw [hoff.sets [(46, .agg #[.slice ma0 p.decls.length ma1, .slice (some ⟨fb, fq, none⟩) p.facts.length mf1, .slice mr0 p.rules.length mr1]), (47, .pointer (some ⟨w.heap.size, 1, none⟩)), (48, .slice (some ⟨fb, fq, none⟩) p.facts.length mf1), (49, .int .i64 (k : Int)), (50, .pointer (some ⟨fb, fq + k * 2, none⟩)), (51, .pointer (some ⟨fb, fq + k * 2, none⟩)), (52, .string z.name), (53, .int .i64 (arityL p.decls z.name)), (54, .pointer (some ⟨w.heap.size, 1, none⟩)), (55, .slice (some ⟨fb, fq, none⟩) p.facts.length mf1), (56, .int .i64 (k : Int)), (57, .pointer (some ⟨fb, fq + k * 2, none⟩)), (58, .pointer (some ⟨fb, fq + k * 2 + 1, none⟩)), (59, .slice ga z.args.length gc), (60, .int .i64 (z.args.length : Int)), (61, .bool nb)] (by kernel_rfl) (by intro p hp; simp only [List.mem_cons, List.not_mem_nil, or_false] at hp; rcases hp with rfl | rfl | rfl | rfl | rfl | rfl | rfl | rfl | rfl | rfl | rfl | rfl | rfl | rfl | rfl | rfl <;> assumption)];clear hoff hf e0 f0 e1 f1 e2 f2 e3 f3 e4 f4 e5 f5 e6 f6 e7 f7 e8 f8 e9 f9 e10 f10 e11 f11 e12 f12 e13 f13 e14 f14 e15 f15;simp only [List.foldl_cons, List.foldl_nil, List.setIfInBounds_toArray, List.set_cons_zero, List.set_cons_succ]
      have HB4 := Lib.hid (Below.step HBK.out hg);clear hg
      cases nb with
      | true =>
       have HF : Hid (checkZ p = (60, -1)) := by
        show _ = _
        have hc1 : (arityL p.decls z.name == (z.args.length : Int)) = false := by have := HNB.out; rw [bne] at this; simpa using this
        have hc2 : p.facts.all (factB p.decls) = false := by rw [hrec.out, HD.out, List.all_cons, factB, hc1]; rfl
        rw [checkZ, HC1.out, hc2, if_pos rfl, if_neg (fun h => by cases h.2)]
       go_wp2_with fail
       go_ret2
       exact ⟨ret_ii HF.out, Below.step B3.out HB4.out⟩
      | false =>
       have HF : Hid (p.facts.all (factB p.decls) = (p.facts.drop (k + 1)).all (factB p.decls)) := by
        show _ = _
        have hc1 : (arityL p.decls z.name == (z.args.length : Int)) = true := by have := HNB.out; rw [bne] at this; simpa using this
        rw [hrec.out, HD.out, List.all_cons, factB, hc1]; rfl
       go_wp2_with fail
       go_roundw
       case rel => exact ⟨k + 1, HKL.out.1, by go_num, HF, HB4⟩
       case measure => have := HKL.out; simp [intOf]; omega
     ·have i1 : decide ((k : Int) < (p.facts.length : Int)) = false := decide_eq_false (by omega)
      have i2 : decide (k < p.facts.length) = false := decide_eq_false hl
      have HE : Hid (checkZ p = rulesErr p.decls p.rules 0) := by
       show _ = _
       have hc3 : p.facts.all (factB p.decls) = true := by rw [hrec.out, List.drop_of_length_le (by omega)]; rfl
       rw [checkZ, HC1.out, HC2.out, hc3]; rfl
      clear hrec hk hl hf X3 B3 P3 HBK;generalize wr = w4 at *;go_wp2_with fail
      clear p0 p1 p2 i1 i2;go_loopw [8, 9] (fun iv _ wr => ∃ k : Nat, k ≤ p.rules.length ∧ iv = .int .i64 (k : Int) ∧ Hid (checkZ p = rulesErr p.decls (p.rules.drop k) k) ∧ Hid (Below w4.heap.size w4 wr)) (fun iv _ _ => p.rules.length - (intOf iv).toNat)
      case atStart => exact ⟨0, Nat.zero_le _, rfl, HE.out, Below.refl _ _⟩
      case round =>
       obtain ⟨k, hk, rfl, hrec, HBK⟩ := hrel;have hf := HFW.out;have XR := Lib.hid (XK.out.on HBK.out);obtain ⟨p0, p1, p2⟩ := XR.out.cells;have PR := Lib.hid (RepPr.on (fun _ h => h) (fun k (hk : k < w.heap.size) => HBK.out.block k (Nat.lt_of_lt_of_le hk BW.out.size)) PW.out);have BR : Hid (Below w.heap.size w wr) := Below.step BW.out HBK.out
       by_cases hl : k < p.rules.length
       ·have i1 : decide ((k : Int) < (p.rules.length : Int)) = true := decide_eq_true (by omega)
        have i2 : decide (k < p.rules.length) = true := decide_eq_true hl;obtain ⟨-, -, lb, lq, xa, xc, ya, yc, hfa, hSb, a0, a1, a2, a3, a4, a5, g⟩ := RepRus.at PR.out.2.2 k hl;have HD := Lib.hid (List.drop_eq_getElem_cons hl);have HKL : Hid (k < p.rules.length ∧ p.rules.length ≤ 64) := ⟨hl, hf.2.2.1⟩;have HKK : Hid ((0 : Int) ≤ (k : Int) ∧ (k : Int) < (p.rules.length : Int)) := ⟨by omega, by omega⟩;have HRB := Lib.hid (hf.2.2.2 _ (List.getElem_mem hl));have HFB : Hid (lb < wr.heap.size) := Nat.lt_of_lt_of_le hSb BR.out.size;have HGA := Lib.hid hfa; have GR := Lib.hid g
        have A0 := Lib.hid a0; have A1 := Lib.hid a1; have A2 := Lib.hid a2; have A3 := Lib.hid a3; have A4 := Lib.hid a4; have A5 := Lib.hid a5
        clear hSb a0 a1 a2 a3 a4 a5 hfa g hf;generalize p.rules[k] = r at *;go_upto_region 20 with fail
        clear p0 p1 p2 i1 i2;refine wp_region_factsG (by rfl) 80 (by rfl) (by kernel_rfl) (fun _ iz vz => (iz = 0 → vz = .agg #[.slice ma0 p.decls.length ma1, .slice mf0 p.facts.length mf1, .slice (some ⟨lb, lq, none⟩) p.rules.length mr1]) ∧ (iz = 1 → vz = .pointer (some ⟨w.heap.size, 2, none⟩)) ∧ (iz = 2 → vz = .slice (some ⟨lb, lq, none⟩) p.rules.length mr1) ∧ (iz = 3 → vz = .int .i64 (k : Int)) ∧ (iz = 4 → vz = .pointer (some ⟨lb, lq + k * 6, none⟩)) ∧ (iz = 5 → vz = .agg #[.string r.label, .string r.head, .slice xa r.args.length xc, .string r.agg, .int .i64 r.at', .slice ya r.body.length yc]) ∧ (iz = 6 → vz = .int .i64 (ruleErr p.decls r)) ∧ (iz = 7 → vz = .int .i64 (ruleErr p.decls r))) (fun w' => Below wr.heap.size wr w') (Below.drew (Below.refl _ _)) ⟨?res0, ?res1, ?res2, ?res3, ?res4, ?res5, ?res6, ?res7, trivial⟩ ?refin
        case res0 =>
         intro a w' hoff hg hdep K hK;have h1 := off_at hoff 1 (v := .pointer (some ⟨w.heap.size, 0, none⟩)) (by kernel_rfl) rfl;rw [if_pos (by rfl)];obtain ⟨p0, p1, p2⟩ := (XR.out.on hg).cells; rw [HGA.out] at p2; have a0 := (hg.cell (p := ⟨lb, lq + k * 6, none⟩) HFB.out).trans A0.out; have a1 := (hg.cell (p := ⟨lb, lq + k * 6 + 1, none⟩) HFB.out).trans A1.out; have a2 := (hg.cell (p := ⟨lb, lq + k * 6 + 2, none⟩) HFB.out).trans A2.out; have a3 := (hg.cell (p := ⟨lb, lq + k * 6 + 3, none⟩) HFB.out).trans A3.out; have a4 := (hg.cell (p := ⟨lb, lq + k * 6 + 4, none⟩) HFB.out).trans A4.out; have a5 := (hg.cell (p := ⟨lb, lq + k * 6 + 5, none⟩) HFB.out).trans A5.out
         go_simp;exact hK.out _ _ hg ⟨fun _ => rfl, nn,nn,nn,nn,nn,nn,nn⟩ (fun _ _ h => h)
        case res1 =>
         intro a w' hoff hg hdep K hK;have h1 := off_at hoff 1 (v := .pointer (some ⟨w.heap.size, 0, none⟩)) (by kernel_rfl) rfl;rw [if_pos (by rfl)];go_simp;exact hK.out _ _ hg ⟨nn, fun _ => rfl, nn,nn,nn,nn,nn,nn⟩ (fun _ _ h => h)
        case res2 =>
         intro a w' hoff hg hdep K hK;obtain ⟨v1, e1, f1⟩ := hdep 1 _ 70 (by kernel_rfl) rfl rfl;obtain rfl := (f1.2.1 rfl).symm;rw [if_pos (by rfl)];obtain ⟨p0, p1, p2⟩ := (XR.out.on hg).cells; rw [HGA.out] at p2; have a0 := (hg.cell (p := ⟨lb, lq + k * 6, none⟩) HFB.out).trans A0.out; have a1 := (hg.cell (p := ⟨lb, lq + k * 6 + 1, none⟩) HFB.out).trans A1.out; have a2 := (hg.cell (p := ⟨lb, lq + k * 6 + 2, none⟩) HFB.out).trans A2.out; have a3 := (hg.cell (p := ⟨lb, lq + k * 6 + 3, none⟩) HFB.out).trans A3.out; have a4 := (hg.cell (p := ⟨lb, lq + k * 6 + 4, none⟩) HFB.out).trans A4.out; have a5 := (hg.cell (p := ⟨lb, lq + k * 6 + 5, none⟩) HFB.out).trans A5.out
         go_simp;exact hK.out _ _ hg ⟨nn,nn, fun _ => rfl, nn,nn,nn,nn,nn⟩ (fun _ _ h => h)
        case res3 =>
         intro a w' hoff hg hdep K hK;have h8 := off_at hoff 8 (v := .int .i64 (k : Int)) (by kernel_rfl) rfl;rw [if_pos (by rfl)];go_simp;exact hK.out _ _ hg ⟨nn,nn,nn, fun _ => rfl, nn,nn,nn,nn⟩ (fun _ _ h => h)
        case res4 =>
         intro a w' hoff hg hdep K hK;obtain ⟨v2, e2, f2⟩ := hdep 2 _ 71 (by kernel_rfl) rfl rfl;obtain rfl := (f2.2.2.1 rfl).symm;obtain ⟨v3, e3, f3⟩ := hdep 3 _ 72 (by kernel_rfl) rfl rfl;obtain rfl := (f3.2.2.2.1 rfl).symm;rw [if_pos (by rfl)];obtain ⟨hk1, hk2⟩ := HKK.out;go_simp;exact hK.out _ _ hg ⟨nn,nn,nn,nn, fun _ => rfl, nn,nn,nn⟩ (fun _ _ h => h)
        case res5 =>
         intro a w' hoff hg hdep K hK;obtain ⟨v4, e4, f4⟩ := hdep 4 _ 73 (by kernel_rfl) rfl rfl;obtain rfl := (f4.2.2.2.2.1 rfl).symm;rw [if_pos (by rfl)];obtain ⟨p0, p1, p2⟩ := (XR.out.on hg).cells; rw [HGA.out] at p2; have a0 := (hg.cell (p := ⟨lb, lq + k * 6, none⟩) HFB.out).trans A0.out; have a1 := (hg.cell (p := ⟨lb, lq + k * 6 + 1, none⟩) HFB.out).trans A1.out; have a2 := (hg.cell (p := ⟨lb, lq + k * 6 + 2, none⟩) HFB.out).trans A2.out; have a3 := (hg.cell (p := ⟨lb, lq + k * 6 + 3, none⟩) HFB.out).trans A3.out; have a4 := (hg.cell (p := ⟨lb, lq + k * 6 + 4, none⟩) HFB.out).trans A4.out; have a5 := (hg.cell (p := ⟨lb, lq + k * 6 + 5, none⟩) HFB.out).trans A5.out
         go_simp;exact hK.out _ _ hg ⟨nn,nn,nn,nn,nn, fun _ => rfl, nn,nn⟩ (fun _ _ h => h)
        case res6 =>
         intro a w' hoff hg hdep K hK;obtain ⟨v0, e0, f0⟩ := hdep 0 _ 69 (by kernel_rfl) rfl rfl;obtain rfl := (f0.1 rfl).symm;obtain ⟨v5, e5, f5⟩ := hdep 5 _ 74 (by kernel_rfl) rfl rfl;obtain rfl := (f5.2.2.2.2.2.1 rfl).symm;rw [if_pos (by rfl)];go_simp;refine (rule6_any p r (fun k => k < w.heap.size) _ _ _ _ _ _ _ _ _ _ (fun k hk => Nat.lt_of_lt_of_le hk (Nat.le_trans BR.out.size hg.size)) (by have h := RepPr.on (fun _ h => h) (fun k (hk : k < w.heap.size) => hg.block k (Nat.lt_of_lt_of_le hk BR.out.size)) PR.out; rw [HGA.out] at h; exact h) (RepRu.on (fun _ h => h) (fun k (hk : k < w.heap.size) => hg.block k (Nat.lt_of_lt_of_le hk BR.out.size)) GR.out) HRB.out).mono ?_;rintro e w5 ⟨rfl, hb⟩;exact hK.out _ _ (Below.step hg hb) ⟨nn,nn,nn,nn,nn,nn, fun _ => rfl, nn⟩ (fun _ _ h => h)
        case res7 =>
         intro a w' hoff hg hdep K hK;obtain ⟨v6, e6, f6⟩ := hdep 6 _ 75 (by kernel_rfl) rfl rfl;obtain rfl := (f6.2.2.2.2.2.2.1 rfl).symm;rw [if_pos (by rfl)];go_simp;exact hK.out _ _ hg ⟨nn,nn,nn,nn,nn,nn,nn, fun _ => rfl⟩ (fun _ _ h => h)
        intro a w9 hoff hg hf;obtain ⟨v0, e0, f0⟩ := hf 0 _ 69 rfl rfl;obtain rfl := (f0.1 rfl).symm;obtain ⟨v1, e1, f1⟩ := hf 1 _ 70 rfl rfl;obtain rfl := (f1.2.1 rfl).symm;obtain ⟨v2, e2, f2⟩ := hf 2 _ 71 rfl rfl;obtain rfl := (f2.2.2.1 rfl).symm;obtain ⟨v3, e3, f3⟩ := hf 3 _ 72 rfl rfl;obtain rfl := (f3.2.2.2.1 rfl).symm;obtain ⟨v4, e4, f4⟩ := hf 4 _ 73 rfl rfl;obtain rfl := (f4.2.2.2.2.1 rfl).symm;obtain ⟨v5, e5, f5⟩ := hf 5 _ 74 rfl rfl;obtain rfl := (f5.2.2.2.2.2.1 rfl).symm;obtain ⟨v6, e6, f6⟩ := hf 6 _ 75 rfl rfl;obtain rfl := (f6.2.2.2.2.2.2.1 rfl).symm;obtain ⟨v7, e7, f7⟩ := hf 7 _ 9 rfl rfl;obtain rfl := (f7.2.2.2.2.2.2.2 rfl).symm;rw [hoff.sets [(69, .agg #[.slice ma0 p.decls.length ma1, .slice mf0 p.facts.length mf1, .slice (some ⟨lb, lq, none⟩) p.rules.length mr1]), (70, .pointer (some ⟨w.heap.size, 2, none⟩)), (71, .slice (some ⟨lb, lq, none⟩) p.rules.length mr1), (72, .int .i64 (k : Int)), (73, .pointer (some ⟨lb, lq + k * 6, none⟩)), (74, .agg #[.string r.label, .string r.head, .slice xa r.args.length xc, .string r.agg, .int .i64 r.at', .slice ya r.body.length yc]), (75, .int .i64 (ruleErr p.decls r)), (9, .int .i64 (ruleErr p.decls r))] (by kernel_rfl) (by intro p hp; simp only [List.mem_cons, List.not_mem_nil, or_false] at hp; rcases hp with rfl | rfl | rfl | rfl | rfl | rfl | rfl | rfl <;> assumption)];clear hoff hf e0 f0 e1 f1 e2 f2 e3 f3 e4 f4 e5 f5 e6 f6 e7 f7;simp only [List.foldl_cons, List.foldl_nil, List.setIfInBounds_toArray, List.set_cons_zero, List.set_cons_succ]
        have HB6 := Lib.hid (Below.step HBK.out hg);clear hg
        by_cases hz : ruleErr p.decls r = 0
        ·have HF : Hid (checkZ p = rulesErr p.decls (p.rules.drop (k + 1)) (k + 1)) := by show _ = _; rw [hrec.out, HD.out, rulesErr, if_pos hz]
         rw [hz];clear hz;go_wp2_with fail
         go_roundw
         case rel => exact ⟨k + 1, HKL.out.1, by go_num, HF, HB6⟩
         case measure => have := HKL.out; simp [intOf]; omega
        ·have HF : Hid (checkZ p = (ruleErr p.decls r, (k : Int))) := by show _ = _; rw [hrec.out, HD.out, rulesErr, if_neg hz]
         obtain ⟨q, hq⟩ : ∃ q, ruleErr p.decls r = q := ⟨_, rfl⟩;rw [hq] at HF hz ⊢;have hz1 : (q == 0) = false := by simp [hz]
         have hz2 : (q != 0) = true := by simp [hz]
         clear hz hq;go_wp2_with fail
         go_ret2
         exact ⟨ret_ii HF.out, Below.step BW.out HB6.out⟩
       ·have i1 : decide ((k : Int) < (p.rules.length : Int)) = false := decide_eq_false (by omega)
        have i2 : decide (k < p.rules.length) = false := decide_eq_false hl;have HF : Hid (checkZ p = (0, -1)) := by show _ = _; rw [hrec.out, List.drop_of_length_le (by omega), rulesErr]
        go_wp2_with fail
        go_ret2
        exact ⟨ret_ii HF.out, BR.out⟩
end Go.Proofs.YtjohcnhiblfbnaaGreat
