/-
  RfRule, RfRight
-/
import Derived.Test.YtjohcnhiblfbnaaGreatK21
namespace Go.Proofs.YtjohcnhiblfbnaaGreat
open Go.RowKit
theorem aggs_any (s : ByteArray) (b : Nat) (w : World) (h0 : w.cell? ⟨b, 0, none⟩ = some (.string ⟨#[109, 105, 110]⟩)) (h1 : w.cell? ⟨b, 1, none⟩ = some (.string ⟨#[109, 97, 120]⟩)) (h2 : w.cell? ⟨b, 2, none⟩ = some (.string ⟨#[99, 111, 117, 110, 116]⟩)) :
  Calls Tryz.prog 88 #[.slice (some ⟨b, 0, none⟩) 3 3, .string s] w fun e w' => e = .returned (.bool (aggNameB s)) ∧ w = w' := by
 have hst : StrsAt w b [⟨#[109, 105, 110]⟩, ⟨#[109, 97, 120]⟩, ⟨#[99, 111, 117, 110, 116]⟩] := by
  intro k hk
  match k, hk with
  | 0, _ => exact h0
  | 1, _ => exact h1
  | 2, _ => exact h2
 have hb : (([⟨#[109, 105, 110]⟩, ⟨#[109, 97, 120]⟩, ⟨#[99, 111, 117, 110, 116]⟩] : List ByteArray).any fun x => x.toList == s.toList) = aggNameB s := by
  simp only [List.any_cons, List.any_nil, Bool.or_false, aggNameB]
  rw [show (⟨#[109, 105, 110]⟩ : ByteArray).toList = [109, 105, 110] by simp [Lib.toList_data], show (⟨#[109, 97, 120]⟩ : ByteArray).toList = [109, 97, 120] by simp [Lib.toList_data], show (⟨#[99, 111, 117, 110, 116]⟩ : ByteArray).toList = [99, 111, 117, 110, 116] by simp [Lib.toList_data]];rw [BEq.comm (a := [109, 105, 110]), BEq.comm (a := [109, 97, 120]), BEq.comm (a := [99, 111, 117, 110, 116])]
 have hx := refIn_any [⟨#[109, 105, 110]⟩, ⟨#[109, 97, 120]⟩, ⟨#[99, 111, 117, 110, 116]⟩] s b w hst (by decide);rw [hb] at hx;exact hx
set_option maxRecDepth 100000 in
set_option maxHeartbeats 16000000 in
theorem refRule_any (x : Ru) (S : Nat → Prop) (w : World) (c0 c1 c2 c3 c4 c5 : Value) (hS : ∀ k, S k → k < w.heap.size) (hx : RepRu S w x c0 c1 c2 c3 c4 c5) :
  Calls Tryz.prog 67 #[.agg #[c0, c1, c2, c3, c4, c5]] w fun e w' => e = .returned (.bool (ruB x)) ∧ Below w.heap.size w w' := by
 have HL := Lib.hid hx.2.2.2.2.2.2.2.2.1; have HB := Lib.hid hx.2.2.2.2.2.2.2.2.2
 have HN1 := Lib.hid hx.2.2.2.2.1; have HN2 := Lib.hid hx.2.2.2.2.2.1
 have hlen : x.body.length * 48 ≤ 140737488355328 := SlG.bytes hx.2.2.2.2.2.2.2.2.2;obtain ⟨fa, fc, ga, gc, rfl, rfl, rfl, rfl, rfl, rfl⟩ := hx.form;clear hx;obtain ⟨gb, hgb⟩ : ∃ b, (listB 1 8 (rightM 8) x.args && headB x.args) = b := ⟨_, rfl⟩;have HG := Lib.hid hgb;obtain ⟨b2, hb2⟩ : ∃ b, relB x.head = b := ⟨_, rfl⟩;have H2 := Lib.hid hb2;obtain ⟨b1', hb1⟩ : ∃ b, relB x.label = b := ⟨_, rfl⟩;have H1 := Lib.hid hb1;have HR0 : Hid (ruB x = (b1' && ((b2 && gb) && (aggB x && listB 1 8 liB x.body)))) := by show _ = _; rw [ruB, atomB, hgb, hb2, hb1]
 clear hgb hb2 hb1
 cases b1' with
 | false =>
  have HF : Hid (ruB x = false) := by show _ = _; rw [HR0.out]; rfl
  clear HR0;go_enter Tryz.func67, Tryz.ntmps67
  go_wp2_with fail
  have x1 := boxRu_new w (.string x.label) (.string x.head) (.slice fa x.args.length fc) (.string x.agg) (.int .i64 x.at') (.slice ga x.body.length gc);have b1 := below_alloc w (.cells #[.string x.label, .string x.head, .slice fa x.args.length fc, .string x.agg, .int .i64 x.at', .slice ga x.body.length gc] 61);generalize w.alloc (.cells #[.string x.label, .string x.head, .slice fa x.args.length fc, .string x.agg, .int .i64 x.at', .slice ga x.body.length gc] 61) = w1 at *;have X1 := Lib.hid x1; have B1 := Lib.hid b1
  clear x1 b1;obtain ⟨p0, p1, p2, p3, p4, p5⟩ := X1.out.cells;refine (refRelation_any x.label _ HN1.out).mono ?_;rw [H1.out];rintro e w' ⟨rfl, rfl⟩;go_wp2_with fail
  refine (refRelation_any x.head _ HN2.out).mono ?_;rw [H2.out];rintro e w' ⟨rfl, rfl⟩;go_wp2_with fail
  refine (refArgs_any x.args S _ _ (fun k hk => Nat.lt_of_lt_of_le (hS k hk) B1.out.size) (RepMs.on (fun _ h => h) (fun k hk => B1.out.block k (hS k hk)) HL.out)).mono ?_;rw [HG.out];rintro e w2 ⟨rfl, hb⟩;have X2 := Lib.hid (X1.out.on hb);have B2 := Lib.hid (Below.step B1.out hb);clear hb;clear p0 p1 p2 p3 p4 p5;obtain ⟨p0, p1, p2, p3, p4, p5⟩ := X2.out.cells;go_wp2_with fail
  go_ret
  exact ⟨ret_bool HF.out.symm, B2.out⟩
 | true =>
 cases b2 with
 | false =>
  have HF : Hid (ruB x = false) := by show _ = _; rw [HR0.out]; rfl
  clear HR0;go_enter Tryz.func67, Tryz.ntmps67
  go_wp2_with fail
  have x1 := boxRu_new w (.string x.label) (.string x.head) (.slice fa x.args.length fc) (.string x.agg) (.int .i64 x.at') (.slice ga x.body.length gc);have b1 := below_alloc w (.cells #[.string x.label, .string x.head, .slice fa x.args.length fc, .string x.agg, .int .i64 x.at', .slice ga x.body.length gc] 61);generalize w.alloc (.cells #[.string x.label, .string x.head, .slice fa x.args.length fc, .string x.agg, .int .i64 x.at', .slice ga x.body.length gc] 61) = w1 at *;have X1 := Lib.hid x1; have B1 := Lib.hid b1
  clear x1 b1;obtain ⟨p0, p1, p2, p3, p4, p5⟩ := X1.out.cells;refine (refRelation_any x.label _ HN1.out).mono ?_;rw [H1.out];rintro e w' ⟨rfl, rfl⟩;go_wp2_with fail
  refine (refRelation_any x.head _ HN2.out).mono ?_;rw [H2.out];rintro e w' ⟨rfl, rfl⟩;go_wp2_with fail
  refine (refArgs_any x.args S _ _ (fun k hk => Nat.lt_of_lt_of_le (hS k hk) B1.out.size) (RepMs.on (fun _ h => h) (fun k hk => B1.out.block k (hS k hk)) HL.out)).mono ?_;rw [HG.out];rintro e w2 ⟨rfl, hb⟩;have X2 := Lib.hid (X1.out.on hb);have B2 := Lib.hid (Below.step B1.out hb);clear hb;clear p0 p1 p2 p3 p4 p5;obtain ⟨p0, p1, p2, p3, p4, p5⟩ := X2.out.cells;go_wp2_with fail
  go_ret
  exact ⟨ret_bool HF.out.symm, B2.out⟩
 | true =>
 cases gb with
 | false =>
  have HF : Hid (ruB x = false) := by show _ = _; rw [HR0.out]; rfl
  clear HR0;go_enter Tryz.func67, Tryz.ntmps67
  go_wp2_with fail
  have x1 := boxRu_new w (.string x.label) (.string x.head) (.slice fa x.args.length fc) (.string x.agg) (.int .i64 x.at') (.slice ga x.body.length gc);have b1 := below_alloc w (.cells #[.string x.label, .string x.head, .slice fa x.args.length fc, .string x.agg, .int .i64 x.at', .slice ga x.body.length gc] 61);generalize w.alloc (.cells #[.string x.label, .string x.head, .slice fa x.args.length fc, .string x.agg, .int .i64 x.at', .slice ga x.body.length gc] 61) = w1 at *;have X1 := Lib.hid x1; have B1 := Lib.hid b1
  clear x1 b1;obtain ⟨p0, p1, p2, p3, p4, p5⟩ := X1.out.cells;refine (refRelation_any x.label _ HN1.out).mono ?_;rw [H1.out];rintro e w' ⟨rfl, rfl⟩;go_wp2_with fail
  refine (refRelation_any x.head _ HN2.out).mono ?_;rw [H2.out];rintro e w' ⟨rfl, rfl⟩;go_wp2_with fail
  refine (refArgs_any x.args S _ _ (fun k hk => Nat.lt_of_lt_of_le (hS k hk) B1.out.size) (RepMs.on (fun _ h => h) (fun k hk => B1.out.block k (hS k hk)) HL.out)).mono ?_;rw [HG.out];rintro e w2 ⟨rfl, hb⟩;have X2 := Lib.hid (X1.out.on hb);have B2 := Lib.hid (Below.step B1.out hb);clear hb;clear p0 p1 p2 p3 p4 p5;obtain ⟨p0, p1, p2, p3, p4, p5⟩ := X2.out.cells;go_wp2_with fail
  go_ret
  exact ⟨ret_bool HF.out.symm, B2.out⟩
 | true =>
 by_cases h2 : 1 ≤ (x.body.length : Int)
 case neg =>
  have HF : Hid (ruB x = false) := by show _ = _; rw [HR0.out, listB_few (by omega), Bool.and_false, Bool.and_false, Bool.and_false]
  have h2' : decide ((x.body.length : Int) < 1) = true := decide_eq_true (by omega);clear h2 HR0;go_enter Tryz.func67, Tryz.ntmps67
  go_wp2_with fail
  have x1 := boxRu_new w (.string x.label) (.string x.head) (.slice fa x.args.length fc) (.string x.agg) (.int .i64 x.at') (.slice ga x.body.length gc);have b1 := below_alloc w (.cells #[.string x.label, .string x.head, .slice fa x.args.length fc, .string x.agg, .int .i64 x.at', .slice ga x.body.length gc] 61);generalize w.alloc (.cells #[.string x.label, .string x.head, .slice fa x.args.length fc, .string x.agg, .int .i64 x.at', .slice ga x.body.length gc] 61) = w1 at *;have X1 := Lib.hid x1; have B1 := Lib.hid b1
  clear x1 b1;obtain ⟨p0, p1, p2, p3, p4, p5⟩ := X1.out.cells;refine (refRelation_any x.label _ HN1.out).mono ?_;rw [H1.out];rintro e w' ⟨rfl, rfl⟩;go_wp2_with fail
  refine (refRelation_any x.head _ HN2.out).mono ?_;rw [H2.out];rintro e w' ⟨rfl, rfl⟩;go_wp2_with fail
  refine (refArgs_any x.args S _ _ (fun k hk => Nat.lt_of_lt_of_le (hS k hk) B1.out.size) (RepMs.on (fun _ h => h) (fun k hk => B1.out.block k (hS k hk)) HL.out)).mono ?_;rw [HG.out];rintro e w2 ⟨rfl, hb⟩;have X2 := Lib.hid (X1.out.on hb);have B2 := Lib.hid (Below.step B1.out hb);clear hb;clear p0 p1 p2 p3 p4 p5;obtain ⟨p0, p1, p2, p3, p4, p5⟩ := X2.out.cells;go_wp2_with fail
  go_ret
  exact ⟨ret_bool HF.out.symm, B2.out⟩
 have h2' : decide ((x.body.length : Int) < 1) = false := decide_eq_false (by omega)
 by_cases h3 : (x.body.length : Int) ≤ 8
 case neg =>
  have HF : Hid (ruB x = false) := by show _ = _; rw [HR0.out, listB_many (by omega), Bool.and_false, Bool.and_false, Bool.and_false]
  have h3' : decide ((x.body.length : Int) > 8) = true := decide_eq_true (by omega);clear h2 h3 HR0;go_enter Tryz.func67, Tryz.ntmps67
  go_wp2_with fail
  have x1 := boxRu_new w (.string x.label) (.string x.head) (.slice fa x.args.length fc) (.string x.agg) (.int .i64 x.at') (.slice ga x.body.length gc);have b1 := below_alloc w (.cells #[.string x.label, .string x.head, .slice fa x.args.length fc, .string x.agg, .int .i64 x.at', .slice ga x.body.length gc] 61);generalize w.alloc (.cells #[.string x.label, .string x.head, .slice fa x.args.length fc, .string x.agg, .int .i64 x.at', .slice ga x.body.length gc] 61) = w1 at *;have X1 := Lib.hid x1; have B1 := Lib.hid b1
  clear x1 b1;obtain ⟨p0, p1, p2, p3, p4, p5⟩ := X1.out.cells;refine (refRelation_any x.label _ HN1.out).mono ?_;rw [H1.out];rintro e w' ⟨rfl, rfl⟩;go_wp2_with fail
  refine (refRelation_any x.head _ HN2.out).mono ?_;rw [H2.out];rintro e w' ⟨rfl, rfl⟩;go_wp2_with fail
  refine (refArgs_any x.args S _ _ (fun k hk => Nat.lt_of_lt_of_le (hS k hk) B1.out.size) (RepMs.on (fun _ h => h) (fun k hk => B1.out.block k (hS k hk)) HL.out)).mono ?_;rw [HG.out];rintro e w2 ⟨rfl, hb⟩;have X2 := Lib.hid (X1.out.on hb);have B2 := Lib.hid (Below.step B1.out hb);clear hb;clear p0 p1 p2 p3 p4 p5;obtain ⟨p0, p1, p2, p3, p4, p5⟩ := X2.out.cells;go_wp2_with fail
  go_ret
  exact ⟨ret_bool HF.out.symm, B2.out⟩
 have h3' : decide ((x.body.length : Int) > 8) = false := decide_eq_false (by omega);have HRL : Hid (ruB x = (aggB x && x.body.all liB)) := by show _ = _; rw [HR0.out, listB_one h2 h3, Bool.true_and, Bool.true_and, Bool.true_and]
 clear h2 h3 HR0;go_enter Tryz.func67, Tryz.ntmps67
 go_wp2_with fail
 have x1 := boxRu_new w (.string x.label) (.string x.head) (.slice fa x.args.length fc) (.string x.agg) (.int .i64 x.at') (.slice ga x.body.length gc);have b1 := below_alloc w (.cells #[.string x.label, .string x.head, .slice fa x.args.length fc, .string x.agg, .int .i64 x.at', .slice ga x.body.length gc] 61);generalize w.alloc (.cells #[.string x.label, .string x.head, .slice fa x.args.length fc, .string x.agg, .int .i64 x.at', .slice ga x.body.length gc] 61) = w1 at *;have X1 := Lib.hid x1; have B1 := Lib.hid b1
 clear x1 b1;obtain ⟨p0, p1, p2, p3, p4, p5⟩ := X1.out.cells;refine (refRelation_any x.label _ HN1.out).mono ?_;rw [H1.out];rintro e w' ⟨rfl, rfl⟩;go_wp2_with fail
 refine (refRelation_any x.head _ HN2.out).mono ?_;rw [H2.out];rintro e w' ⟨rfl, rfl⟩;go_wp2_with fail
 refine (refArgs_any x.args S _ _ (fun k hk => Nat.lt_of_lt_of_le (hS k hk) B1.out.size) (RepMs.on (fun _ h => h) (fun k hk => B1.out.block k (hS k hk)) HL.out)).mono ?_;rw [HG.out];rintro e w2 ⟨rfl, hb⟩;have X2 := Lib.hid (X1.out.on hb);have B2 := Lib.hid (Below.step B1.out hb);clear hb;clear p0 p1 p2 p3 p4 p5;obtain ⟨p0, p1, p2, p3, p4, p5⟩ := X2.out.cells;go_wp2_with fail
 have HSZ := Lib.hid (fun k (hk : S k) => Nat.lt_of_lt_of_le (hS k hk) B2.out.size);have HLS := Lib.hid (RepLis.on (fun _ h => h) (fun k hk => B2.out.block k (hS k hk)) HB.out : RepLis S w2 x.body (.slice ga x.body.length gc));clear p0 p1 p2 p3 p4 p5;go_loopw [6, 7] (fun i _ wr => ∃ k : Nat, k ≤ x.body.length ∧ i = .int .i64 k ∧ Hid (x.body.all liB = (x.body.drop k).all liB) ∧ Below w2.heap.size w2 wr) (fun i _ _ => x.body.length - (intOf i).toNat)
 case atStart => exact ⟨0, Nat.zero_le _, rfl, rfl, Below.refl _ _⟩
 case round =>
  obtain ⟨k, hk, rfl, hrec, hbel⟩ := hrel;have XR := Lib.hid (X2.out.on hbel); have HBEL := Lib.hid hbel
  have BR := Lib.hid (Below.step B2.out hbel);obtain ⟨p0, p1, p2, p3, p4, p5⟩ := XR.out.cells
  by_cases hl : k < x.body.length
  ·have hA := (RepLis.on (fun _ h => h) (fun j hj => hbel.block j (HSZ.out j hj)) HLS.out : RepLis S wr x.body (.slice ga x.body.length gc))
   obtain ⟨-, hcap2, lb2, lo2, fa2, fc2, hga2, -, g0, g1, g2, g⟩ := RepLis.at hA k hl;rw [hga2] at p5;have G := Lib.hid g; have HGA2 := Lib.hid hga2
   have HD := Lib.hid (List.drop_eq_getElem_cons hl);clear hA g hga2 hbel;generalize x.body[k] = y at *;go_wp2_with fail
   refine (refLiteral_any y S wr _ _ _ (fun j hj => Nat.lt_of_lt_of_le (HSZ.out j hj) HBEL.out.size) G.out).mono ?_;obtain ⟨rz, hrz⟩ : ∃ b, liB y = b := ⟨_, rfl⟩;have HRZ := Lib.hid hrz;rw [hrz];clear hrz;rintro e w3 ⟨rfl, hb⟩;have HB3 := Lib.hid (Below.step HBEL.out hb);have B3 := Lib.hid (Below.step B2.out HB3.out);clear hb p0 p1 p2 p3 p4 p5 g0 g1 g2
   cases rz with
   | true =>
    have HN : Hid (x.body.all liB = (x.body.drop (k + 1)).all liB) := by show _ = _; rw [hrec.out, HD.out, List.all_cons, HRZ.out, Bool.true_and]
    go_wp2_with fail
    go_roundw
    case rel => exact ⟨k + 1, by omega, by go_num, HN, HB3.out⟩
    case measure => simp [intOf]; omega
   | false =>
    have HF : Hid (ruB x = false) := by show _ = _; rw [HRL.out, hrec.out, HD.out, List.all_cons, HRZ.out, Bool.false_and, Bool.and_false]
    go_wp2_with fail
    go_ret
    exact ⟨ret_bool HF.out.symm, B3.out⟩
  ·have HR1 : Hid (ruB x = aggB x) := by show _ = _; rw [HRL.out, hrec.out, List.drop_of_length_le (by omega)]; exact Bool.and_true _
   clear hbel hrec HRL;have hge : decide ((k : Int) < (x.body.length : Int)) = false := decide_eq_false (by omega);clear hk
   cases h0 : x.agg.toList.isEmpty with
   | true =>
    cases h1 : (x.at' == 0)
    all_goals
     have HF := Lib.hid (show ruB x = _ by rw [HR1.out, aggB, if_pos h0, h1]);go_wp2_with fail
     go_ret
     exact ⟨ret_bool HF.out.symm, BR.out⟩
   | false =>
    obtain ⟨an, han⟩ : ∃ b, aggNameB x.agg = b := ⟨_, rfl⟩;have HAN := Lib.hid han;have hba := below_alloc wr (.cells #[.string ⟨#[109, 105, 110]⟩, .string ⟨#[109, 97, 120]⟩, .string ⟨#[99, 111, 117, 110, 116]⟩] 9);have hnw := alloc_new' wr (.cells #[.string ⟨#[109, 105, 110]⟩, .string ⟨#[109, 97, 120]⟩, .string ⟨#[99, 111, 117, 110, 116]⟩] 9);have X4 := Lib.hid (XR.out.on hba); have B4 := Lib.hid (Below.step BR.out hba)
    obtain ⟨q0, q1, q2, q3, q4, q5⟩ := X4.out.cells;go_wp2_with fail
    clear q0 q1 q2 q3 q4 q5;clear p0 p1 p2 p3 p4 p5;generalize wr.alloc (.cells #[.string ⟨#[109, 105, 110]⟩, .string ⟨#[109, 97, 120]⟩, .string ⟨#[99, 111, 117, 110, 116]⟩] 9) = w4 at *;obtain ⟨p0, p1, p2, p3, p4, p5⟩ := X4.out.cells;refine (aggs_any x.agg wr.heap.size w4 (cell_of_block' hnw _ rfl) (cell_of_block' hnw _ rfl) (cell_of_block' hnw _ rfl)).mono ?_;rw [HAN.out];rintro e w' ⟨rfl, rfl⟩;clear hnw hba;have HR2 : Hid (ruB x = (an && (decide (1 ≤ x.at') && (decide (x.at' < (x.args.length : Int)) && kindAt x.args x.at' == 1)))) := by show _ = _; rw [HR1.out, aggB, if_neg (by rw [h0]; decide), han]
    clear HR1 han
    cases an with
    | false =>
     have HF : Hid (ruB x = false) := HR2.out;clear HR2;go_wp2_with fail
     go_ret
     exact ⟨ret_bool HF.out.symm, B4.out⟩
    | true =>
    by_cases a1 : 1 ≤ x.at'
    case neg =>
     have a1' : decide (1 ≤ x.at') = false := decide_eq_false a1;have a1'' : decide (x.at' ≥ 1) = false := decide_eq_false a1;have HF : Hid (ruB x = false) := by show _ = _; rw [HR2.out, a1']; rfl
     clear a1 HR2;go_wp2_with fail
     go_ret
     exact ⟨ret_bool HF.out.symm, B4.out⟩
    have a1' : decide (1 ≤ x.at') = true := decide_eq_true a1;have a1'' : decide (x.at' ≥ 1) = true := decide_eq_true a1
    by_cases a2 : x.at' < (x.args.length : Int)
    case neg =>
     have a2' : decide (x.at' < (x.args.length : Int)) = false := decide_eq_false a2;have HF : Hid (ruB x = false) := by show _ = _; rw [HR2.out, a1', a2']; rfl
     clear a1 a2 HR2;go_wp2_with fail
     go_ret
     exact ⟨ret_bool HF.out.symm, B4.out⟩
    have a2' : decide (x.at' < (x.args.length : Int)) = true := decide_eq_true a2;obtain ⟨k, hk⟩ := Int.eq_ofNat_of_zero_le (show 0 ≤ x.at' by omega);have hkl : k < x.args.length := by omega
    have HR3 : Hid (ruB x = (x.args[k].kind == 1)) := by
     show _ = _
     rw [HR2.out, a1', a2', kindAt, hk];simp [List.getElem?_eq_getElem hkl]
    clear HR2;rw [hk] at p4 a1 a1' a1'' a2 a2';clear hk;have hA := (RepMs.on (fun _ h => h) (fun j hj => B4.out.block j (hS j hj)) HL.out : RepMs S w4 x.args (.slice fa x.args.length fc));obtain ⟨-, hcap, lb, lo, ha, hc, ia, ic, hga, -, g0, -⟩ := RepMs.at hA k hkl;rw [hga] at p2;have HGA := Lib.hid hga;clear hA hga;generalize x.args[k] = z at *;have hk0 : (0 : Int) ≤ (k : Int) := by omega
    cases h9 : (z.kind == 1)
    all_goals
     have HF := Lib.hid HR3.out;rw [h9] at HF;go_wp2_with fail
     go_ret
     exact ⟨ret_bool HF.out.symm, B4.out⟩
end Go.Proofs.YtjohcnhiblfbnaaGreat
namespace Go.Proofs.YtjohcnhiblfbnaaGreat
open Go.RowKit
theorem listB_upTo {α : Type} {R : α → Bool} {l : List α} (h2 : (l.length : Int) ≤ 64) : listB 0 64 R l = l.all R := by
 unfold listB; rw [decide_eq_true (by omega : (0 : Int) ≤ (l.length : Int)), decide_eq_true h2]; simp
set_option maxRecDepth 100000 in
set_option maxHeartbeats 16000000 in
theorem refPrRight_any (x : Pr) (S : Nat → Prop) (w : World) (c0 c1 c2 : Value) (hS : ∀ k, S k → k < w.heap.size) (hx : RepPr S w x c0 c1 c2) :
    Calls Tryz.prog 39 #[.agg #[c0, c1, c2]] w fun e w' => e = .returned (.bool (prB x)) ∧ Below w.heap.size w w' := by
  have HD0 := Lib.hid hx.1; have HFA := Lib.hid hx.2.1; have HR := Lib.hid hx.2.2
  obtain ⟨fa, fc, rfl⟩ := SlG.form hx.1;obtain ⟨ga, gc, rfl⟩ := SlG.form hx.2.1;obtain ⟨ha, hc, rfl⟩ := SlG.form hx.2.2;clear hx
  by_cases d0 : (x.decls.length : Int) ≤ 64
  case neg =>
    have HF : Hid (prB x = false) := by show _ = _; rw [prB, listB_many (l := x.decls) (by omega)]; simp
    have d0' : decide ((x.decls.length : Int) > 64) = true := decide_eq_true (by omega);clear d0;go_enter Tryz.func39, Tryz.ntmps39
    go_wp2_with fail
    have x1 := boxPr_new w (.slice fa x.decls.length fc) (.slice ga x.facts.length gc) (.slice ha x.rules.length hc);have b1 := below_alloc w (.cells #[.slice fa x.decls.length fc, .slice ga x.facts.length gc, .slice ha x.rules.length hc] 26);generalize w.alloc (.cells #[.slice fa x.decls.length fc, .slice ga x.facts.length gc, .slice ha x.rules.length hc] 26) = w1 at *;have X1 := Lib.hid x1; have B1 := Lib.hid b1
    clear x1 b1;obtain ⟨p0, p1, p2⟩ := X1.out.cells;go_ret
    exact ⟨ret_bool HF.out.symm, B1.out⟩
  have d0' : decide ((x.decls.length : Int) > 64) = false := decide_eq_false (by omega)
  by_cases d1 : (x.facts.length : Int) ≤ 64
  case neg =>
    have HF : Hid (prB x = false) := by show _ = _; rw [prB, listB_many (l := x.facts) (by omega)]; simp
    have d1' : decide ((x.facts.length : Int) > 64) = true := decide_eq_true (by omega);clear d0 d1;go_enter Tryz.func39, Tryz.ntmps39
    go_wp2_with fail
    have x1 := boxPr_new w (.slice fa x.decls.length fc) (.slice ga x.facts.length gc) (.slice ha x.rules.length hc);have b1 := below_alloc w (.cells #[.slice fa x.decls.length fc, .slice ga x.facts.length gc, .slice ha x.rules.length hc] 26);generalize w.alloc (.cells #[.slice fa x.decls.length fc, .slice ga x.facts.length gc, .slice ha x.rules.length hc] 26) = w1 at *;have X1 := Lib.hid x1; have B1 := Lib.hid b1
    clear x1 b1;obtain ⟨p0, p1, p2⟩ := X1.out.cells;go_ret
    exact ⟨ret_bool HF.out.symm, B1.out⟩
  have d1' : decide ((x.facts.length : Int) > 64) = false := decide_eq_false (by omega)
  by_cases d2 : (x.rules.length : Int) ≤ 64
  case neg =>
    have HF : Hid (prB x = false) := by show _ = _; rw [prB, listB_many (l := x.rules) (by omega)]; simp
    have d2' : decide ((x.rules.length : Int) > 64) = true := decide_eq_true (by omega);clear d0 d1 d2;go_enter Tryz.func39, Tryz.ntmps39
    go_wp2_with fail
    have x1 := boxPr_new w (.slice fa x.decls.length fc) (.slice ga x.facts.length gc) (.slice ha x.rules.length hc);have b1 := below_alloc w (.cells #[.slice fa x.decls.length fc, .slice ga x.facts.length gc, .slice ha x.rules.length hc] 26);generalize w.alloc (.cells #[.slice fa x.decls.length fc, .slice ga x.facts.length gc, .slice ha x.rules.length hc] 26) = w1 at *;have X1 := Lib.hid x1; have B1 := Lib.hid b1
    clear x1 b1;obtain ⟨p0, p1, p2⟩ := X1.out.cells;go_ret
    exact ⟨ret_bool HF.out.symm, B1.out⟩
  have d2' : decide ((x.rules.length : Int) > 64) = false := decide_eq_false (by omega);have HQ0 : Hid (prB x = (x.decls.all deB && (x.facts.all faB && x.rules.all ruB))) := by show _ = _; rw [prB, listB_upTo d0, listB_upTo d1, listB_upTo d2]
  have n0 : x.decls.length ≤ 64 := by omega
  have n1 : x.facts.length ≤ 64 := by omega
  have n2 : x.rules.length ≤ 64 := by omega
  clear d0 d1 d2;go_enter Tryz.func39, Tryz.ntmps39
  go_wp2_with fail
  have x1 := boxPr_new w (.slice fa x.decls.length fc) (.slice ga x.facts.length gc) (.slice ha x.rules.length hc);have b1 := below_alloc w (.cells #[.slice fa x.decls.length fc, .slice ga x.facts.length gc, .slice ha x.rules.length hc] 26);generalize w.alloc (.cells #[.slice fa x.decls.length fc, .slice ga x.facts.length gc, .slice ha x.rules.length hc] 26) = w1 at *;have X1 := Lib.hid x1; have B1 := Lib.hid b1
  clear x1 b1;obtain ⟨p0, p1, p2⟩ := X1.out.cells;have HSZ0 := Lib.hid (fun k (hk : S k) => Nat.lt_of_lt_of_le (hS k hk) B1.out.size);have HLS0 := Lib.hid (RepDes.on (fun _ h => h) (fun k hk => B1.out.block k (hS k hk)) HD0.out);clear p0 p1 p2;go_loopw [3, 4] (fun i _ wr => ∃ k : Nat, k ≤ x.decls.length ∧ i = .int .i64 k ∧ Hid (x.decls.all deB = (x.decls.drop k).all deB) ∧ Below w1.heap.size w1 wr) (fun i _ _ => x.decls.length - (intOf i).toNat)
  case atStart => exact ⟨0, Nat.zero_le _, rfl, rfl, Below.refl _ _⟩
  case round =>
    obtain ⟨k, hk, rfl, hrec, hbel⟩ := hrel;generalize wr = wa at *;have XR0 := Lib.hid (X1.out.on hbel); have HBEL := Lib.hid hbel
    have BR0 := Lib.hid (Below.step B1.out hbel);obtain ⟨p0, p1, p2⟩ := XR0.out.cells
    by_cases hl : k < x.decls.length
    · have hA := RepDes.on (fun _ h => h) (fun j hj => hbel.block j (HSZ0.out j hj)) HLS0.out
      obtain ⟨-, hcap2, lb2, lo2, hga2, -, g0, g1, g⟩ := RepDes.at hA k hl;rw [hga2] at p0;have G := Lib.hid g; have HGA2 := Lib.hid hga2
      have HD := Lib.hid (List.drop_eq_getElem_cons hl);clear hA g hga2 hbel;generalize x.decls[k] = y at *;have HNY := Lib.hid G.out.2.2.1;have HB3 := HBEL
      have HDE : Hid (deB y = (relB y.name && (!(decide (y.arity < 1)) && !(decide (y.arity > 8))))) := by
        show _ = _
        rw [deB]
        by_cases q1 : 1 ≤ y.arity <;> by_cases q2 : y.arity ≤ 8 <;> simp [q1, q2] <;> omega
      go_wp2_with fail
      refine (refRelation_any y.name _ HNY.out).mono ?_;obtain ⟨rz, hrz⟩ : ∃ b, relB y.name = b := ⟨_, rfl⟩;rw [hrz] at HDE ⊢;clear hrz;rintro e w' ⟨rfl, rfl⟩
      cases rz
      all_goals
        cases q1 : decide (y.arity < 1)
        all_goals
          cases q2 : decide (y.arity > 8)
          all_goals
            have HRZ := Lib.hid HDE.out;rw [q1, q2] at HRZ;clear HDE
            first
              | (have HN : Hid (x.decls.all deB = (x.decls.drop (k + 1)).all deB) := by
                   show _ = _; rw [hrec.out, HD.out, List.all_cons, HRZ.out]; rfl
                 go_wp2_with fail
                 go_roundw
                 case rel => exact ⟨k + 1, by omega, by go_num, HN, HB3.out⟩
                 case measure => simp [intOf]; omega)
              | (have HF : Hid (prB x = false) := by show _ = _; rw [HQ0.out, hrec.out, HD.out, List.all_cons, HRZ.out]; simp
                 go_wp2_with fail
                 go_ret
                 exact ⟨ret_bool HF.out.symm, BR0.out⟩)
    · have HQ1 : Hid (prB x = (x.facts.all faB && x.rules.all ruB)) := by show _ = _; rw [HQ0.out, hrec.out, List.drop_of_length_le (by omega)]; exact rfl
      have hge0 : decide ((k : Int) < (x.decls.length : Int)) = false := decide_eq_false (by omega);clear hbel hrec HBEL hk;go_wp2_with fail
      have HSZ1 := Lib.hid (fun k (hk : S k) => Nat.lt_of_lt_of_le (hS k hk) BR0.out.size);have HLS1 := Lib.hid (RepFas.on (fun _ h => h) (fun k hk => BR0.out.block k (hS k hk)) HFA.out);clear p0 p1 p2;go_loopw [5, 6] (fun i _ wr => ∃ k : Nat, k ≤ x.facts.length ∧ i = .int .i64 k ∧ Hid (x.facts.all faB = (x.facts.drop k).all faB) ∧ Below wa.heap.size wa wr) (fun i _ _ => x.facts.length - (intOf i).toNat)
      case atStart => exact ⟨0, Nat.zero_le _, rfl, rfl, Below.refl _ _⟩
      case round =>
        obtain ⟨k, hk, rfl, hrec, hbel⟩ := hrel;generalize wr = wb at *;have XR1 := Lib.hid (XR0.out.on hbel); have HBEL := Lib.hid hbel
        have BR1 := Lib.hid (Below.step BR0.out hbel);obtain ⟨p0, p1, p2⟩ := XR1.out.cells
        by_cases hl : k < x.facts.length
        · have hA := RepFas.on (fun _ h => h) (fun j hj => hbel.block j (HSZ1.out j hj)) HLS1.out
          obtain ⟨-, hcap2, lb2, lo2, ia, ic, hga2, -, g0, g1, g⟩ := RepFas.at hA k hl;rw [hga2] at p1;have G := Lib.hid g; have HGA2 := Lib.hid hga2
          have HD := Lib.hid (List.drop_eq_getElem_cons hl);clear hA g hga2 hbel;generalize x.facts[k] = y at *;go_wp2_with fail
          refine (refTuple_any y S _ _ _ (fun j hj => Nat.lt_of_lt_of_le (HSZ1.out j hj) HBEL.out.size) G.out).mono ?_;obtain ⟨rz, hrz⟩ : ∃ b, faB y = b := ⟨_, rfl⟩;have HRZ := Lib.hid hrz;rw [hrz];clear hrz;rintro e w3 ⟨rfl, hb⟩;have HB3 := Lib.hid (Below.step HBEL.out hb);have B3 := Lib.hid (Below.step BR0.out HB3.out);clear hb p0 p1 p2 g0 g1
          cases rz with
          | true =>
            have HN : Hid (x.facts.all faB = (x.facts.drop (k + 1)).all faB) := by show _ = _; rw [hrec.out, HD.out, List.all_cons, HRZ.out, Bool.true_and]
            go_wp2_with fail
            go_roundw
            case rel => exact ⟨k + 1, by omega, by go_num, HN, HB3.out⟩
            case measure => simp [intOf]; omega
          | false =>
            have HF : Hid (prB x = false) := by show _ = _; rw [HQ1.out, hrec.out, HD.out, List.all_cons, HRZ.out]; simp
            go_wp2_with fail
            go_ret
            exact ⟨ret_bool HF.out.symm, B3.out⟩
        · have HQ2 : Hid (prB x = x.rules.all ruB) := by show _ = _; rw [HQ1.out, hrec.out, List.drop_of_length_le (by omega)]; exact rfl
          have hge1 : decide ((k : Int) < (x.facts.length : Int)) = false := decide_eq_false (by omega);clear hbel hrec HBEL hk;go_wp2_with fail
          have HSZ2 := Lib.hid (fun k (hk : S k) => Nat.lt_of_lt_of_le (hS k hk) BR1.out.size);have HLS2 := Lib.hid (RepRus.on (fun _ h => h) (fun k hk => BR1.out.block k (hS k hk)) HR.out);clear p0 p1 p2;go_loopw [7, 8] (fun i _ wr => ∃ k : Nat, k ≤ x.rules.length ∧ i = .int .i64 k ∧ Hid (x.rules.all ruB = (x.rules.drop k).all ruB) ∧ Below wb.heap.size wb wr) (fun i _ _ => x.rules.length - (intOf i).toNat)
          case atStart => exact ⟨0, Nat.zero_le _, rfl, rfl, Below.refl _ _⟩
          case round =>
            obtain ⟨k, hk, rfl, hrec, hbel⟩ := hrel;generalize wr = wc at *;have XR2 := Lib.hid (XR1.out.on hbel); have HBEL := Lib.hid hbel
            have BR2 := Lib.hid (Below.step BR1.out hbel);obtain ⟨p0, p1, p2⟩ := XR2.out.cells
            by_cases hl : k < x.rules.length
            · have hA := RepRus.on (fun _ h => h) (fun j hj => hbel.block j (HSZ2.out j hj)) HLS2.out
              obtain ⟨-, hcap2, lb2, lo2, ea, ec, ia, ic, hga2, -, g0, g1, g2, g3, g4, g5, g⟩ := RepRus.at hA k hl;rw [hga2] at p2;have G := Lib.hid g; have HGA2 := Lib.hid hga2
              have HD := Lib.hid (List.drop_eq_getElem_cons hl);clear hA g hga2 hbel;generalize x.rules[k] = y at *;go_wp2_with fail
              refine (refRule_any y S _ _ _ _ _ _ _ (fun j hj => Nat.lt_of_lt_of_le (HSZ2.out j hj) HBEL.out.size) G.out).mono ?_;obtain ⟨rz, hrz⟩ : ∃ b, ruB y = b := ⟨_, rfl⟩;have HRZ := Lib.hid hrz;rw [hrz];clear hrz;rintro e w3 ⟨rfl, hb⟩;have HB3 := Lib.hid (Below.step HBEL.out hb);have B3 := Lib.hid (Below.step BR1.out HB3.out);clear hb p0 p1 p2 g0 g1 g2 g3 g4 g5
              cases rz with
              | true =>
                have HN : Hid (x.rules.all ruB = (x.rules.drop (k + 1)).all ruB) := by show _ = _; rw [hrec.out, HD.out, List.all_cons, HRZ.out, Bool.true_and]
                go_wp2_with fail
                go_roundw
                case rel => exact ⟨k + 1, by omega, by go_num, HN, HB3.out⟩
                case measure => simp [intOf]; omega
              | false =>
                have HF : Hid (prB x = false) := by show _ = _; rw [HQ2.out, hrec.out, HD.out, List.all_cons, HRZ.out]; simp
                go_wp2_with fail
                go_ret
                exact ⟨ret_bool HF.out.symm, B3.out⟩
            · have HQ3 : Hid (prB x = true) := by show _ = _; rw [HQ2.out, hrec.out, List.drop_of_length_le (by omega)]; exact rfl
              have hge2 : decide ((k : Int) < (x.rules.length : Int)) = false := decide_eq_false (by omega);clear hbel hrec HBEL hk;go_wp2_with fail
              have HF := HQ3;go_ret
              exact ⟨ret_bool HF.out.symm, BR2.out⟩
end Go.Proofs.YtjohcnhiblfbnaaGreat
