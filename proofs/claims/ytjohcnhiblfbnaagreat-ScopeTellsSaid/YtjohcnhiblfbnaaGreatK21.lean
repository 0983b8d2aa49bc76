/-
  RfLit, RfLiteral
-/
import Derived.Test.YtjohcnhiblfbnaaGreatK20
namespace Go.Proofs.YtjohcnhiblfbnaaGreat
open Go.RowKit
set_option maxRecDepth 100000 in
set_option maxHeartbeats 4000000 in
theorem refTerms_any (l : List Tm) (S : Nat → Prop) (w : World) (a : Value) (hS : ∀ k, S k → k < w.heap.size) (ha : RepMs S w l a) :
  Calls Tryz.prog 102 #[a] w fun e w' => e = .returned (.bool (l.all (rightM 8))) ∧ Below w.heap.size w w' := by
 have HA := Lib.hid ha;have hlen : l.length * 104 ≤ 140737488355328 := SlG.bytes ha;obtain ⟨aa, cap, rfl⟩ := SlG.form ha;clear ha;go_enter Tryz.func102, Tryz.ntmps102
 go_wp2_with fail
 go_loopw [3, 4] (fun i _ wr => ∃ k : Nat, k ≤ l.length ∧ i = .int .i64 k ∧ Hid (l.all (rightM 8) = (l.drop k).all (rightM 8)) ∧ Below w.heap.size w wr) (fun i _ _ => l.length - (intOf i).toNat)
 case atStart => exact ⟨0, Nat.zero_le _, rfl, rfl, Below.refl _ _⟩
 case round =>
  obtain ⟨k, hk, rfl, hrec, hbel⟩ := hrel;have HB := Lib.hid hbel
  by_cases hl : k < l.length
  ·have hA := RepMs.on (fun _ h => h) (fun j hj => hbel.block j (hS j hj)) HA.out
   obtain ⟨-, hcap, lb, lo, ea, ec, ia, ic, rfl, -, g0, g1, g2, g3, g4, g5, g6, g⟩ := RepMs.at hA k hl;have G := Lib.hid g;have HD := Lib.hid (List.drop_eq_getElem_cons hl);clear hA g hbel;generalize l[k] = z at *;go_wp2_with fail
   refine (refTm_any 8 (by omega) z S _ _ _ _ _ _ _ _ (fun j hj => Nat.lt_of_lt_of_le (hS j hj) HB.out.size) G.out).mono ?_;rintro e w3 ⟨rfl, hb3⟩;have HB3 := Lib.hid (Below.step HB.out hb3);clear hb3 g0 g1 g2 g3 g4 g5 g6
   cases hc : rightM 8 z with
   | true =>
    have HF : Hid (l.all (rightM 8) = (l.drop (k + 1)).all (rightM 8)) := by show _ = _; rw [hrec.out, HD.out, List.all_cons, hc, Bool.true_and]
    clear hc;go_wp2_with fail
    go_roundw
    case rel => exact ⟨k + 1, by omega, by go_num, HF, HB3.out⟩
    case measure => simp [intOf]; omega
   | false =>
    have HF : Hid (l.all (rightM 8) = false) := by show _ = _; rw [hrec.out, HD.out, List.all_cons, hc, Bool.false_and]
    clear hc;go_wp2_with fail
    go_ret
    exact ⟨ret_bool HF.out.symm, HB3.out⟩
  ·have HF : Hid (l.all (rightM 8) = true) := by show _ = _; rw [hrec.out, List.drop_of_length_le (by omega)]; rfl
   go_wp2_with fail
   go_ret
   exact ⟨ret_bool HF.out.symm, HB.out⟩
theorem argsB_of (l : List Tm) : (listB 1 8 (rightM 8) l && headB l) = (l.all (rightM 8) && (decide (1 ≤ (l.length : Int)) && (decide ((l.length : Int) ≤ 8) && headB l))) := by
 unfold listB
 cases l.all (rightM 8) <;> cases decide (1 ≤ (l.length : Int)) <;> cases decide ((l.length : Int) ≤ 8) <;> simp
set_option maxRecDepth 100000 in
set_option maxHeartbeats 4000000 in
theorem refArgs_any (l : List Tm) (S : Nat → Prop) (w : World) (a : Value) (hS : ∀ k, S k → k < w.heap.size) (hl : RepMs S w l a) :
  Calls Tryz.prog 86 #[a] w fun e w' => e = .returned (.bool (listB 1 8 (rightM 8) l && headB l)) ∧ Below w.heap.size w w' := by
 have HL := Lib.hid hl;obtain ⟨ga, gc, rfl⟩ := SlG.form hl;clear hl;rw [argsB_of]
 cases h1 : l.all (rightM 8) with
 | false =>
  have H1 := Lib.hid h1; clear h1
  go_enter Tryz.func86, Tryz.ntmps86
  go_wp2_with fail
  refine (refTerms_any l S _ _ hS HL.out).mono ?_;rw [H1.out];rintro e w1 ⟨rfl, hb⟩;have B1 := Lib.hid hb;clear hb;go_wp2_with fail
  go_ret
  exact ⟨rfl, B1.out⟩
 | true =>
 have H1 := Lib.hid h1; clear h1
 by_cases h2 : 1 ≤ (l.length : Int)
 case neg =>
  have h2' : decide (1 ≤ (l.length : Int)) = false := decide_eq_false h2;have HF : Hid ((true && (decide (1 ≤ (l.length : Int)) && (decide ((l.length : Int) ≤ 8) && headB l))) = false) := by show _ = _; rw [h2']; rfl
  clear h2;go_enter Tryz.func86, Tryz.ntmps86
  go_wp2_with fail
  refine (refTerms_any l S _ _ hS HL.out).mono ?_;rw [H1.out];rintro e w1 ⟨rfl, hb⟩;have B1 := Lib.hid hb;clear hb;go_wp2_with fail
  go_ret
  exact ⟨ret_bool HF.out.symm, B1.out⟩
 have h2' : decide (1 ≤ (l.length : Int)) = true := decide_eq_true h2
 by_cases h3 : (l.length : Int) ≤ 8
 case neg =>
  have h3' : decide ((l.length : Int) ≤ 8) = false := decide_eq_false h3;have HF : Hid ((true && (decide (1 ≤ (l.length : Int)) && (decide ((l.length : Int) ≤ 8) && headB l))) = false) := by show _ = _; rw [h2', h3']; rfl
  clear h2 h3;go_enter Tryz.func86, Tryz.ntmps86
  go_wp2_with fail
  refine (refTerms_any l S _ _ hS HL.out).mono ?_;rw [H1.out];rintro e w1 ⟨rfl, hb⟩;have B1 := Lib.hid hb;clear hb;go_wp2_with fail
  go_ret
  exact ⟨ret_bool HF.out.symm, B1.out⟩
 have h3' : decide ((l.length : Int) ≤ 8) = true := decide_eq_true h3;have hpos : 0 < l.length := by omega
 have HF0 : Hid ((true && (decide (1 ≤ (l.length : Int)) && (decide ((l.length : Int) ≤ 8) && headB l))) = placeB l[0]) := by
  show _ = _
  rw [h2', h3']
  cases l with
  | nil => simp at hpos
  | cons z l => rfl
 have hp1 : (0 : Int) < (l.length : Int) := by omega
 clear h2 h3;go_enter Tryz.func86, Tryz.ntmps86
 go_wp2_with fail
 refine (refTerms_any l S _ _ hS HL.out).mono ?_;rw [H1.out];rintro e w1 ⟨rfl, hb⟩;have B1 := Lib.hid hb;clear hb;have hA := (RepMs.on (fun _ h => h) (fun k hk => B1.out.block k (hS k hk)) HL.out : RepMs S w1 l (.slice ga l.length gc));obtain ⟨-, hcap, lb, lo, ea, ec, ia, ic, rfl, -, g0, g1, g2, g3, g4, g5, g6, -⟩ := RepMs.at hA 0 hpos;simp only [Nat.zero_mul, Nat.add_zero] at g0 g1 g2 g3 g4 g5 g6
 clear hA;generalize l[0] = z at *
 cases q1 : (z.kind == 1)
 all_goals
  cases q2 : (z.kind == 2)
  all_goals
   cases q3 : (z.val.kind == 3)
   all_goals
    have HF := Lib.hid HF0.out;rw [placeB, q1, q2, q3] at HF;clear HF0;go_wp2_with fail
    go_ret
    exact ⟨ret_bool HF.out.symm, B1.out⟩
end Go.Proofs.YtjohcnhiblfbnaaGreat
namespace Go.Proofs.YtjohcnhiblfbnaaGreat
open Go.RowKit
theorem listB_same {α : Type} (n : Int) (R : α → Bool) (l : List α) : listB n n R l = (l.all R && ((l.length : Int) == n)) := by
 unfold listB
 cases h : ((l.length : Int) == n)
 ·have h' : (l.length : Int) ≠ n := by simpa using h
  rcases Int.lt_or_le (l.length : Int) n with g | g
  ·rw [decide_eq_false (by omega : ¬ n ≤ (l.length : Int))]; simp
  ·rw [decide_eq_false (by omega : ¬ (l.length : Int) ≤ n)]; simp
 ·have h' : (l.length : Int) = n := by simpa using h
  rw [decide_eq_true (by omega), decide_eq_true (by omega)]; simp
theorem cmps_any (s : ByteArray) (b : Nat) (w : World) (h0 : w.cell? ⟨b, 0, none⟩ = some (.string ⟨#[61, 61]⟩)) (h1 : w.cell? ⟨b, 1, none⟩ = some (.string ⟨#[33, 61]⟩)) (h2 : w.cell? ⟨b, 2, none⟩ = some (.string ⟨#[60]⟩)) (h3 : w.cell? ⟨b, 3, none⟩ = some (.string ⟨#[60, 61]⟩)) (h4 : w.cell? ⟨b, 4, none⟩ = some (.string ⟨#[62]⟩)) (h5 : w.cell? ⟨b, 5, none⟩ = some (.string ⟨#[62, 61]⟩)) :
  Calls Tryz.prog 88 #[.slice (some ⟨b, 0, none⟩) 6 6, .string s] w fun e w' => e = .returned (.bool (cmpB s)) ∧ w = w' := by
 have hst : StrsAt w b [⟨#[61, 61]⟩, ⟨#[33, 61]⟩, ⟨#[60]⟩, ⟨#[60, 61]⟩, ⟨#[62]⟩, ⟨#[62, 61]⟩] := by
  intro k hk
  match k, hk with
  | 0, _ => exact h0
  | 1, _ => exact h1
  | 2, _ => exact h2
  | 3, _ => exact h3
  | 4, _ => exact h4
  | 5, _ => exact h5
 have hb : (([⟨#[61, 61]⟩, ⟨#[33, 61]⟩, ⟨#[60]⟩, ⟨#[60, 61]⟩, ⟨#[62]⟩, ⟨#[62, 61]⟩] : List ByteArray).any fun x => x.toList == s.toList) = cmpB s := by
  simp only [List.any_cons, List.any_nil, Bool.or_false, cmpB]
  rw [show (⟨#[61, 61]⟩ : ByteArray).toList = [61, 61] by simp [Lib.toList_data], show (⟨#[33, 61]⟩ : ByteArray).toList = [33, 61] by simp [Lib.toList_data], show (⟨#[60]⟩ : ByteArray).toList = [60] by simp [Lib.toList_data], show (⟨#[60, 61]⟩ : ByteArray).toList = [60, 61] by simp [Lib.toList_data], show (⟨#[62]⟩ : ByteArray).toList = [62] by simp [Lib.toList_data], show (⟨#[62, 61]⟩ : ByteArray).toList = [62, 61] by simp [Lib.toList_data]];rw [BEq.comm (a := [61, 61]), BEq.comm (a := [33, 61]), BEq.comm (a := [60]), BEq.comm (a := [60, 61]), BEq.comm (a := [62]), BEq.comm (a := [62, 61])]
 have hx := refIn_any [⟨#[61, 61]⟩, ⟨#[33, 61]⟩, ⟨#[60]⟩, ⟨#[60, 61]⟩, ⟨#[62]⟩, ⟨#[62, 61]⟩] s b w hst (by decide);rw [hb] at hx;exact hx
set_option maxRecDepth 100000 in
set_option maxHeartbeats 4000000 in
theorem refLiteral_any (x : Li) (S : Nat → Prop) (w : World) (c0 c1 c2 : Value) (hS : ∀ k, S k → k < w.heap.size) (hx : RepLi S w x c0 c1 c2) :
  Calls Tryz.prog 87 #[.agg #[c0, c1, c2]] w fun e w' => e = .returned (.bool (liB x)) ∧ Below w.heap.size w w' := by
 have HL := Lib.hid hx.2.2.2.2; have HNS := Lib.hid hx.2.2.2.1
 obtain ⟨ga, gc, rfl, rfl, rfl⟩ := hx.form;clear hx;obtain ⟨gb, hgb⟩ : ∃ b, (listB 1 8 (rightM 8) x.args && headB x.args) = b := ⟨_, rfl⟩;have HG := Lib.hid hgb;obtain ⟨tb, htb⟩ : ∃ b, x.args.all (rightM 8) = b := ⟨_, rfl⟩;have HT := Lib.hid htb;have HAT : Hid (atomB x.name x.args = (relB x.name && gb)) := by show _ = _; rw [atomB, hgb]
 have HL2 : Hid (listB 2 2 (rightM 8) x.args = (tb && ((x.args.length : Int) == 2))) := by show _ = _; rw [listB_same, htb]
 have HL1 : Hid (listB 1 1 (rightM 8) x.args = (tb && ((x.args.length : Int) == 1))) := by show _ = _; rw [listB_same, htb]
 clear hgb htb
 by_cases e1 : x.kind = 1
 ·have HF1 : Hid (liB x = (relB x.name && gb)) := by show _ = _; rw [liB, if_pos e1, HAT.out]
  have k1 : (x.kind == 1) = true := by simp [e1]
  clear e1 HAT HL1 HL2
  cases h1 : relB x.name
  all_goals
   have HF := Lib.hid HF1.out;rw [h1] at HF;have H1 := Lib.hid h1;clear HF1 h1;go_enter Tryz.func87, Tryz.ntmps87
   go_wp2_with fail
   have x1 := boxLi_new w (.int .i64 x.kind) (.string x.name) (.slice ga x.args.length gc);have b1 := below_alloc w (.cells #[.int .i64 x.kind, .string x.name, .slice ga x.args.length gc] 63);generalize w.alloc (.cells #[.int .i64 x.kind, .string x.name, .slice ga x.args.length gc] 63) = w1 at *;have X1 := Lib.hid x1; have B1 := Lib.hid b1
   clear x1 b1;obtain ⟨p0, p1, p2⟩ := X1.out.cells;refine (refRelation_any x.name _ HNS.out).mono ?_;rw [H1.out];rintro e w' ⟨rfl, rfl⟩;go_wp2_with fail
   refine (refArgs_any x.args S _ _ (fun k hk => Nat.lt_of_lt_of_le (hS k hk) B1.out.size) (RepMs.on (fun _ h => h) (fun k hk => B1.out.block k (hS k hk)) HL.out)).mono ?_;rw [HG.out];rintro e w2 ⟨rfl, hb⟩;have X2 := Lib.hid (X1.out.on hb);have B2 := Lib.hid (Below.step B1.out hb);clear hb;clear p0 p1 p2;obtain ⟨p0, p1, p2⟩ := X2.out.cells;go_wp2_with fail
   go_ret
   exact ⟨ret_bool HF.out.symm, B2.out⟩
 have k1 : (x.kind == 1) = false := by simp [e1]
 by_cases e2 : x.kind = 2
 ·have HF1 : Hid (liB x = (relB x.name && gb)) := by show _ = _; rw [liB, if_neg e1, if_pos e2, HAT.out]
  have k2 : (x.kind == 2) = true := by simp [e2]
  clear e1 e2 HAT HL1 HL2
  cases h1 : relB x.name
  all_goals
   have HF := Lib.hid HF1.out;rw [h1] at HF;have H1 := Lib.hid h1;clear HF1 h1;go_enter Tryz.func87, Tryz.ntmps87
   go_wp2_with fail
   have x1 := boxLi_new w (.int .i64 x.kind) (.string x.name) (.slice ga x.args.length gc);have b1 := below_alloc w (.cells #[.int .i64 x.kind, .string x.name, .slice ga x.args.length gc] 63);generalize w.alloc (.cells #[.int .i64 x.kind, .string x.name, .slice ga x.args.length gc] 63) = w1 at *;have X1 := Lib.hid x1; have B1 := Lib.hid b1
   clear x1 b1;obtain ⟨p0, p1, p2⟩ := X1.out.cells;refine (refRelation_any x.name _ HNS.out).mono ?_;rw [H1.out];rintro e w' ⟨rfl, rfl⟩;go_wp2_with fail
   refine (refArgs_any x.args S _ _ (fun k hk => Nat.lt_of_lt_of_le (hS k hk) B1.out.size) (RepMs.on (fun _ h => h) (fun k hk => B1.out.block k (hS k hk)) HL.out)).mono ?_;rw [HG.out];rintro e w2 ⟨rfl, hb⟩;have X2 := Lib.hid (X1.out.on hb);have B2 := Lib.hid (Below.step B1.out hb);clear hb;clear p0 p1 p2;obtain ⟨p0, p1, p2⟩ := X2.out.cells;go_wp2_with fail
   go_ret
   exact ⟨ret_bool HF.out.symm, B2.out⟩
 have k2 : (x.kind == 2) = false := by simp [e2]
 by_cases e3 : x.kind = 3
 ·have HF1 : Hid (liB x = (cmpB x.name && (tb && ((x.args.length : Int) == 2)))) := by show _ = _; rw [liB, if_neg e1, if_neg e2, if_pos e3, HL2.out]
  have k3 : (x.kind == 3) = true := by simp [e3]
  clear e1 e2 e3 HAT HL1 HL2
  cases h1 : cmpB x.name
  all_goals
   cases tb
   all_goals
    cases h3 : ((x.args.length : Int) == 2)
    all_goals
     have HF := Lib.hid HF1.out;rw [h1, h3] at HF;have H1 := Lib.hid h1;clear HF1 h1;go_enter Tryz.func87, Tryz.ntmps87
     go_wp2_with fail
     have x1 := boxLi_new w (.int .i64 x.kind) (.string x.name) (.slice ga x.args.length gc);have b1 := below_alloc w (.cells #[.int .i64 x.kind, .string x.name, .slice ga x.args.length gc] 63);have s1 := World.size_alloc w (.cells #[.int .i64 x.kind, .string x.name, .slice ga x.args.length gc] 63);generalize w.alloc (.cells #[.int .i64 x.kind, .string x.name, .slice ga x.args.length gc] 63) = w1 at *;have X1 := Lib.hid x1; have B1 := Lib.hid b1
     have S1 := Lib.hid s1;clear x1 b1 s1;obtain ⟨p0, p1, p2⟩ := X1.out.cells;have hba := below_alloc w1 (.cells #[.string ⟨#[61, 61]⟩, .string ⟨#[33, 61]⟩, .string ⟨#[60]⟩, .string ⟨#[60, 61]⟩, .string ⟨#[62]⟩, .string ⟨#[62, 61]⟩] 9);have hnw := alloc_new' w1 (.cells #[.string ⟨#[61, 61]⟩, .string ⟨#[33, 61]⟩, .string ⟨#[60]⟩, .string ⟨#[60, 61]⟩, .string ⟨#[62]⟩, .string ⟨#[62, 61]⟩] 9);have X2 := Lib.hid (X1.out.on hba); have B2 := Lib.hid (Below.step B1.out hba)
     clear p0 p1 p2;generalize w1.alloc (.cells #[.string ⟨#[61, 61]⟩, .string ⟨#[33, 61]⟩, .string ⟨#[60]⟩, .string ⟨#[60, 61]⟩, .string ⟨#[62]⟩, .string ⟨#[62, 61]⟩] 9) = w2 at *;rw [S1.out] at hnw;refine (cmps_any x.name (w.heap.size + 1) w2 (cell_of_block' hnw _ rfl) (cell_of_block' hnw _ rfl) (cell_of_block' hnw _ rfl) (cell_of_block' hnw _ rfl) (cell_of_block' hnw _ rfl) (cell_of_block' hnw _ rfl)).mono ?_;rw [H1.out];rintro e w' ⟨rfl, rfl⟩;clear hnw hba;obtain ⟨p0, p1, p2⟩ := X2.out.cells;go_wp2_with fail
     refine (refTerms_any x.args S _ _ (fun k hk => Nat.lt_of_lt_of_le (hS k hk) B2.out.size) (RepMs.on (fun _ h => h) (fun k hk => B2.out.block k (hS k hk)) HL.out)).mono ?_;rw [HT.out];rintro e w3 ⟨rfl, hb⟩;have X3 := Lib.hid (X2.out.on hb);have B3 := Lib.hid (Below.step B2.out hb);clear hb;clear p0 p1 p2;obtain ⟨p0, p1, p2⟩ := X3.out.cells;go_wp2_with fail
     go_ret
     exact ⟨ret_bool HF.out.symm, B3.out⟩
 have k3 : (x.kind == 3) = false := by simp [e3]
 by_cases e4 : x.kind = 4
 ·have HF1 : Hid (liB x = (varB x.name && (tb && ((x.args.length : Int) == 1)))) := by show _ = _; rw [liB, if_neg e1, if_neg e2, if_neg e3, if_pos e4, HL1.out]
  have k4 : (x.kind == 4) = true := by simp [e4]
  clear e1 e2 e3 e4 HAT HL1 HL2
  cases h1 : varB x.name
  all_goals
   cases tb
   all_goals
    cases h3 : ((x.args.length : Int) == 1)
    all_goals
     have HF := Lib.hid HF1.out;rw [h1, h3] at HF;have H1 := Lib.hid h1;clear HF1 h1;go_enter Tryz.func87, Tryz.ntmps87
     go_wp2_with fail
     have x1 := boxLi_new w (.int .i64 x.kind) (.string x.name) (.slice ga x.args.length gc);have b1 := below_alloc w (.cells #[.int .i64 x.kind, .string x.name, .slice ga x.args.length gc] 63);generalize w.alloc (.cells #[.int .i64 x.kind, .string x.name, .slice ga x.args.length gc] 63) = w1 at *;have X1 := Lib.hid x1; have B1 := Lib.hid b1
     clear x1 b1;obtain ⟨p0, p1, p2⟩ := X1.out.cells;refine (refUpper_any x.name _ HNS.out).mono ?_;rw [H1.out];rintro e w' ⟨rfl, rfl⟩;go_wp2_with fail
     refine (refTerms_any x.args S _ _ (fun k hk => Nat.lt_of_lt_of_le (hS k hk) B1.out.size) (RepMs.on (fun _ h => h) (fun k hk => B1.out.block k (hS k hk)) HL.out)).mono ?_;rw [HT.out];rintro e w2 ⟨rfl, hb⟩;have X2 := Lib.hid (X1.out.on hb);have B2 := Lib.hid (Below.step B1.out hb);clear hb;clear p0 p1 p2;obtain ⟨p0, p1, p2⟩ := X2.out.cells;go_wp2_with fail
     go_ret
     exact ⟨ret_bool HF.out.symm, B2.out⟩
 have k4 : (x.kind == 4) = false := by simp [e4]
 have HF : Hid (liB x = false) := by show _ = _; rw [liB, if_neg e1, if_neg e2, if_neg e3, if_neg e4]
 clear e1 e2 e3 e4 HAT HL1 HL2;go_enter Tryz.func87, Tryz.ntmps87
 go_wp2_with fail
 have x1 := boxLi_new w (.int .i64 x.kind) (.string x.name) (.slice ga x.args.length gc);have b1 := below_alloc w (.cells #[.int .i64 x.kind, .string x.name, .slice ga x.args.length gc] 63);generalize w.alloc (.cells #[.int .i64 x.kind, .string x.name, .slice ga x.args.length gc] 63) = w1 at *;have X1 := Lib.hid x1; have B1 := Lib.hid b1
 clear x1 b1;obtain ⟨p0, p1, p2⟩ := X1.out.cells;go_ret
 exact ⟨ret_bool HF.out.symm, B1.out⟩
theorem listB_one {α : Type} {R : α → Bool} {l : List α} (h1 : 1 ≤ (l.length : Int)) (h2 : (l.length : Int) ≤ 8) : listB 1 8 R l = l.all R := by
 unfold listB; rw [decide_eq_true h1, decide_eq_true h2]; simp
set_option maxRecDepth 100000 in
set_option maxHeartbeats 8000000 in
theorem refTuple_any (x : Fa) (S : Nat → Prop) (w : World) (c0 c1 : Value) (hS : ∀ k, S k → k < w.heap.size) (hx : RepFa S w x c0 c1) :
  Calls Tryz.prog 66 #[.agg #[c0, c1]] w fun e w' => e = .returned (.bool (faB x)) ∧ Below w.heap.size w w' := by
 have HL := Lib.hid hx.2.2; have HNS := Lib.hid hx.2.1
 have hlen : x.args.length * 56 ≤ 140737488355328 := by obtain ⟨_, _, _, _, _, _, h, _⟩ := hx.2.2; exact h
 obtain ⟨ga, gc, rfl, rfl⟩ := hx.form;clear hx
 cases h1 : relB x.name with
 | false =>
  have HF : Hid (faB x = false) := by show _ = _; rw [faB, h1]; rfl
  have H1 := Lib.hid h1; clear h1
  go_enter Tryz.func66, Tryz.ntmps66
  go_wp2_with fail
  have x1 := boxFa_new w (.string x.name) (.slice ga x.args.length gc);have b1 := below_alloc w (.cells #[.string x.name, .slice ga x.args.length gc] 68);generalize w.alloc (.cells #[.string x.name, .slice ga x.args.length gc] 68) = w1 at *;have X1 := Lib.hid x1; have B1 := Lib.hid b1
  clear x1 b1;obtain ⟨p0, p1⟩ := X1.out.cells;refine (refRelation_any x.name _ HNS.out).mono ?_;rw [H1.out];rintro e w' ⟨rfl, rfl⟩;go_wp2_with fail
  go_ret
  exact ⟨ret_bool HF.out.symm, B1.out⟩
 | true =>
 have H1 := Lib.hid h1
 by_cases h2 : 1 ≤ (x.args.length : Int)
 case neg =>
  have HF : Hid (faB x = false) := by show _ = _; rw [faB, h1, listB_few (by omega)]; rfl
  have h2' : decide ((x.args.length : Int) < 1) = true := decide_eq_true (by omega);clear h1 h2;go_enter Tryz.func66, Tryz.ntmps66
  go_wp2_with fail
  have x1 := boxFa_new w (.string x.name) (.slice ga x.args.length gc);have b1 := below_alloc w (.cells #[.string x.name, .slice ga x.args.length gc] 68);generalize w.alloc (.cells #[.string x.name, .slice ga x.args.length gc] 68) = w1 at *;have X1 := Lib.hid x1; have B1 := Lib.hid b1
  clear x1 b1;obtain ⟨p0, p1⟩ := X1.out.cells;refine (refRelation_any x.name _ HNS.out).mono ?_;rw [H1.out];rintro e w' ⟨rfl, rfl⟩;go_wp2_with fail
  go_ret
  exact ⟨ret_bool HF.out.symm, B1.out⟩
 have h2' : decide ((x.args.length : Int) < 1) = false := decide_eq_false (by omega)
 by_cases h3 : (x.args.length : Int) ≤ 8
 case neg =>
  have HF : Hid (faB x = false) := by show _ = _; rw [faB, h1, listB_many (by omega)]; rfl
  have h3' : decide ((x.args.length : Int) > 8) = true := decide_eq_true (by omega);clear h1 h2 h3;go_enter Tryz.func66, Tryz.ntmps66
  go_wp2_with fail
  have x1 := boxFa_new w (.string x.name) (.slice ga x.args.length gc);have b1 := below_alloc w (.cells #[.string x.name, .slice ga x.args.length gc] 68);generalize w.alloc (.cells #[.string x.name, .slice ga x.args.length gc] 68) = w1 at *;have X1 := Lib.hid x1; have B1 := Lib.hid b1
  clear x1 b1;obtain ⟨p0, p1⟩ := X1.out.cells;refine (refRelation_any x.name _ HNS.out).mono ?_;rw [H1.out];rintro e w' ⟨rfl, rfl⟩;go_wp2_with fail
  go_ret
  exact ⟨ret_bool HF.out.symm, B1.out⟩
 have h3' : decide ((x.args.length : Int) > 8) = false := decide_eq_false (by omega);have hpos : 0 < x.args.length := by omega
 have HF0 : Hid (faB x = (x.args.all (rightV 4) && (x.args[0].kind == 3))) := by
  show _ = _
  rw [faB, h1, listB_one h2 h3, headV_pos hpos, Bool.true_and]
 clear h1 h2 h3;generalize x.args = l at *;go_enter Tryz.func66, Tryz.ntmps66
 go_wp2_with fail
 have x1 := boxFa_new w (.string x.name) (.slice ga l.length gc);have b1 := below_alloc w (.cells #[.string x.name, .slice ga l.length gc] 68);generalize w.alloc (.cells #[.string x.name, .slice ga l.length gc] 68) = w1 at *;have X1 := Lib.hid x1; have B1 := Lib.hid b1
 clear x1 b1;obtain ⟨p0, p1⟩ := X1.out.cells;refine (refRelation_any x.name _ HNS.out).mono ?_;rw [H1.out];rintro e w' ⟨rfl, rfl⟩;have hA := (RepLG.on (fun _ h => h) (fun k hk => B1.out.block k (hS k hk)) HL.out : RepLG S w1 l (.slice ga l.length gc));obtain ⟨-, hcap, lb, lo, fa, fc, hga, -, g0, g1, g2, g3, -⟩ := RepLG.at hA 0 hpos;simp only [Nat.zero_mul, Nat.add_zero] at g0 g1 g2 g3
 rw [hga] at p1;have HGA := Lib.hid hga;clear hA hga;have hp1 : (0 : Int) < (l.length : Int) := by omega
 cases h4 : (l[0].kind == 3) with
 | false =>
  have HF : Hid (faB x = false) := by show _ = _; rw [HF0.out, h4, Bool.and_false]
  generalize l[0] = z at *;have h4' : (z.kind != 3) = true := by simp [bne, h4]
  clear HF0;go_wp2_with fail
  go_ret
  exact ⟨ret_bool HF.out.symm, B1.out⟩
 | true =>
 have HR0 : Hid (faB x = l.all (rightV 4)) := by show _ = _; rw [HF0.out, h4, Bool.and_true]
 have h4' : (l[0].kind != 3) = false := by simp [bne, h4]
 generalize l[0] = z at *;clear HF0;go_wp2_with fail
 have HSZ := Lib.hid (fun k (hk : S k) => Nat.lt_of_lt_of_le (hS k hk) B1.out.size);have HLS := Lib.hid (RepLG.on (fun _ h => h) (fun k hk => B1.out.block k (hS k hk)) HL.out : RepLG S w1 l (.slice ga l.length gc));clear p0 p1 g0 g1 g2 g3;go_loopw [4, 5] (fun i _ wr => ∃ k : Nat, k ≤ l.length ∧ i = .int .i64 k ∧ Hid (l.all (rightV 4) = (l.drop k).all (rightV 4)) ∧ Below w1.heap.size w1 wr) (fun i _ _ => l.length - (intOf i).toNat)
 case atStart => exact ⟨0, Nat.zero_le _, rfl, rfl, Below.refl _ _⟩
 case round =>
  obtain ⟨k, hk, rfl, hrec, hbel⟩ := hrel;have XR := Lib.hid (X1.out.on hbel); have HBEL := Lib.hid hbel
  obtain ⟨p0, p1⟩ := XR.out.cells
  by_cases hl : k < l.length
  ·have hA := (RepLG.on (fun _ h => h) (fun j hj => hbel.block j (HSZ.out j hj)) HLS.out : RepLG S wr l (.slice ga l.length gc))
   obtain ⟨-, hcap2, lb2, lo2, fa2, fc2, hga2, -, g0, g1, g2, g3, g⟩ := RepLG.at hA k hl;rw [hga2] at p1;have G := Lib.hid g; have HGA2 := Lib.hid hga2
   have HD := Lib.hid (List.drop_eq_getElem_cons hl);clear hA g hga2 hbel;generalize l[k] = y at *;go_wp2_with fail
   refine (refRight_any y wr.heap.size wr _ _ _ _ (Nat.le_refl _) (RepG.on (fun j hj => Nat.lt_of_lt_of_le (HSZ.out j hj) HBEL.out.size) (fun _ _ => rfl) y G.out)).mono ?_;obtain ⟨rz, hrz⟩ : ∃ b, rightV 4 y = b := ⟨_, rfl⟩;have HRZ := Lib.hid hrz;rw [hrz];clear hrz;rintro e w3 ⟨rfl, hb⟩;have HB3 := Lib.hid (Below.step HBEL.out hb);have B3 := Lib.hid (Below.step B1.out HB3.out);clear hb p0 p1 g0 g1 g2 g3
   cases rz with
   | true =>
    have HN : Hid (l.all (rightV 4) = (l.drop (k + 1)).all (rightV 4)) := by show _ = _; rw [hrec.out, HD.out, List.all_cons, HRZ.out, Bool.true_and]
    go_wp2_with fail
    go_roundw
    case rel => exact ⟨k + 1, by omega, by go_num, HN, HB3.out⟩
    case measure => simp [intOf]; omega
   | false =>
    have HF : Hid (faB x = false) := by show _ = _; rw [HR0.out, hrec.out, HD.out, List.all_cons, HRZ.out, Bool.false_and]
    go_wp2_with fail
    go_ret
    exact ⟨ret_bool HF.out.symm, B3.out⟩
  ·have HF : Hid (faB x = true) := by show _ = _; rw [HR0.out, hrec.out, List.drop_of_length_le (by omega)]; rfl
   have B3 := Lib.hid (Below.step B1.out hbel);clear hbel;go_wp2_with fail
   go_ret
   exact ⟨ret_bool HF.out.symm, B3.out⟩
end Go.Proofs.YtjohcnhiblfbnaaGreat
