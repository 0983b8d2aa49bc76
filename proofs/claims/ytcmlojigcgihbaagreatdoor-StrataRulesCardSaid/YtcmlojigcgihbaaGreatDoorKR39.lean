/-
  LocPlaceAll, LocCheck, StrCheck, Open, LawPost, LawBase
-/
import Derived.Test.YtcmlojigcgihbaaGreatDoorKR32
import Derived.Test.YtcmlojigcgihbaaGreatDoorKR38
import Derived.Test.YtcmlojigcgihbaaGreatDoorKR19
import Derived.Test.YtcmlojigcgihbaaGreatDoorKR29
import Derived.Test.YtcmlojigcgihbaaGreatDoorKR01
import Derived.Test.YtcmlojigcgihbaaGreatDoorKR03
import Derived.Test.YtcmlojigcgihbaaGreatDoorRows
import Derived.Test.YtcmlojigcgihbaaGreatDoorKR33
import Derived.Test.YtcmlojigcgihbaaGreatDoorCards
import Derived.Test.YtcmlojigcgihbaaGreatDoorTie
import Derived.ProofKit
import Derived.Lib.SmallJoins
import Derived.Deep.Slices
import Derived.OpenShut
import Derived.Deep.DeepHandedRow
import Derived.Lib.LaidTab
namespace Go.Proofs.YtcmlojigcgihbaaGreatDoor
open Go.RowKit
theorem placesL_all (p : ByteArray → Prop) : ∀ (l : List Li) (acc : List ByteArray), (∀ s ∈ acc, p s) → (∀ x ∈ l, p (name0 x.args)) → ∀ s ∈ placesL acc l, p s
 | [], acc, h, _ => h
 | x :: l, acc, h, hl => by
  rw [placesL]
  split
  ·refine placesL_all p l _ (fun s hs => ?_) (fun y hy => hl y (List.mem_cons_of_mem _ hy))
   rcases List.mem_append.1 hs with hs | hs
   ·exact h s hs
   ·rw [List.mem_singleton.1 hs]; exact hl x (List.mem_cons_self ..)
  ·exact placesL_all p l acc h (fun y hy => hl y (List.mem_cons_of_mem _ hy))
theorem name0_size {S : Nat → Prop} {w : World} {l : List Tm} {v : Value} (h : RepMs S w l v) : (name0 l).size ≤ maxLen := by
 obtain ⟨a, cap, rfl⟩ := SlG.form h
 by_cases h0 : 0 < l.length
 ·obtain ⟨-, -, b, o, fa, fc, ga, gc, -, -, -, -, -, -, -, -, -, t⟩ := RepMs.at h 0 h0
  rw [(kind0_at h0).2];exact (RepM.bounds t).2
 ·cases l with
  | nil => exact Nat.zero_le _
  | cons x m => simp at h0
theorem lis_names {S : Nat → Prop} {w : World} {l : List Li} {v : Value} (h : RepLis S w l v) : ∀ x ∈ l, (name0 x.args).size ≤ maxLen := by
 intro x hx;obtain ⟨i, hi, rfl⟩ := List.mem_iff_getElem.1 hx;obtain ⟨a, cap, rfl⟩ := SlG.form h;obtain ⟨-, -, b, o, ga, gc, -, -, -, -, -, g⟩ := RepLis.at h i hi;exact name0_size g.2.2.2.2
theorem lis_sizes {S : Nat → Prop} {w : World} {l : List Li} {v : Value} (h : RepLis S w l v) : ∀ s ∈ placesL [] l, s.size ≤ maxLen :=
 placesL_all _ l [] (fun _ h => by cases h) (lis_names h)
theorem atomB_pos {s : ByteArray} {l : List Tm} (h : atomB s l = true) : 0 < l.length := by
 rw [atomB] at h;simp only [Bool.and_eq_true] at h
 have := (listB_bounds h.2.1).1;omega
theorem ru_facts {r : Ru} (h : ruB r = true) : r.body.length ≤ 8 ∧ (∀ x ∈ r.body, hasPl x = true → 0 < x.args.length) ∧ 0 < r.args.length := by
 rw [ruB] at h;simp only [Bool.and_eq_true] at h
 obtain ⟨-, h1, -, h2⟩ := h;obtain ⟨b1, b2, b3⟩ := listB_bounds h2;refine ⟨by omega, fun x hx hp => ?_, atomB_pos h1⟩;have hl := b3 x hx;rw [hasPl, Bool.or_eq_true, beq_iff_eq, beq_iff_eq] at hp;rw [liB] at hl;rcases hp with hp | hp
 ·rw [if_pos hp] at hl; exact atomB_pos hl
 ·rw [if_neg (by omega), if_pos hp] at hl; exact atomB_pos hl
theorem showRu_ne (r : Ru) : (showRu r).isEmpty = false := by rw [showRu]; cases r.label.data.toList <;> rfl
theorem told_empty (r : Ru) : (⟨(told (ruB r) (showRu r)).toArray⟩ : ByteArray).toList.isEmpty = !ruB r := by
 rw [Lib.toList_data]
 cases ruB r with
 | true => exact showRu_ne r
 | false => rfl
theorem told_eq (r : Ru) : ((⟨(told (ruB r) (showRu r)).toArray⟩ : ByteArray).toList == []) = !ruB r := by
 rw [← told_empty]
 cases (⟨(told (ruB r) (showRu r)).toArray⟩ : ByteArray).toList <;> rfl
set_option maxRecDepth 100000 in
set_option maxHeartbeats 4000000 in
theorem locPlace_any (r : Ru) (S : Nat → Prop) (w : World) (c0 c1 c2 c3 c4 c5 : Value) (hS : ∀ k, S k → k < w.heap.size) (hg : 0 < w.heap.size) (htab : TabOk w) (hx : RepRu S w r c0 c1 c2 c3 c4 c5) :
  Calls Tryz.prog 11 #[.agg #[c0, c1, c2, c3, c4, c5]] w fun e w' => e = plRet (placeZ r) ∧ Below w.heap.size w w' := by
 have HX := Lib.hid hx; have HS := Lib.hid hS; have HG := Lib.hid hg; have HT := Lib.hid htab
 obtain ⟨fa, fc, xa, xc, rfl, rfl, rfl, rfl, rfl, rfl⟩ := hx.form;clear hx hS hg htab;go_enter Tryz.func11, Tryz.ntmps11
 go_upto_region 1 with fail
 have mk := boxRu_new w (.string r.label) (.string r.head) (.slice fa r.args.length fc) (.string r.agg) (.int .i64 r.at') (.slice xa r.body.length xc);have d1 := below_alloc w (.cells #[.string r.label, .string r.head, .slice fa r.args.length fc, .string r.agg, .int .i64 r.at', .slice xa r.body.length xc] 43);have s1 := World.size_alloc w (.cells #[.string r.label, .string r.head, .slice fa r.args.length fc, .string r.agg, .int .i64 r.at', .slice xa r.body.length xc] 43);generalize w.alloc (.cells #[.string r.label, .string r.head, .slice fa r.args.length fc, .string r.agg, .int .i64 r.at', .slice xa r.body.length xc] 43) = w1 at *;have m2 := alloc_new' w1 (.cells #[.string ⟨#[]⟩, .string ⟨#[]⟩, .string ⟨#[]⟩] 37);have d2 := below_alloc w1 (.cells #[.string ⟨#[]⟩, .string ⟨#[]⟩, .string ⟨#[]⟩] 37);have s2 := World.size_alloc w1 (.cells #[.string ⟨#[]⟩, .string ⟨#[]⟩, .string ⟨#[]⟩] 37);generalize w1.alloc (.cells #[.string ⟨#[]⟩, .string ⟨#[]⟩, .string ⟨#[]⟩] 37) = w2 at *;rw [s1] at m2 s2;have X1 : Hid (BoxRu w2 w.heap.size (.string r.label) (.string r.head) (.slice fa r.args.length fc) (.string r.agg) (.int .i64 r.at') (.slice xa r.body.length xc)) := mk.on d2;have X2 : Hid (BoxPl w2 (w.heap.size + 1) (.string ⟨#[]⟩) (.string ⟨#[]⟩) (.string ⟨#[]⟩)) := m2;have B2 : Hid (Below w.heap.size w w2) := Below.step d1 d2;clear mk m2 d1 d2 s1 s2;obtain ⟨k2, hk2⟩ : ∃ k, w.heap.size + 1 = k := ⟨_, rfl⟩;rw [hk2] at X2 ⊢;have HK2 : Hid (w.heap.size < k2) := by show _ < _; omega
 clear hk2;obtain ⟨p0, p1, p2, p3, p4, p5⟩ := X1.out.cells;go_wp2_with fail
 refine (prRu_any r S w2 _ _ _ _ _ _ (fun k hk => Nat.lt_of_lt_of_le (HS.out k hk) B2.out.size) (Nat.lt_of_lt_of_le HG.out B2.out.size) (TabOk.below HT.out HG.out B2.out) (RepRu.on (fun _ h => h) (fun j hj => B2.out.block j (HS.out j hj)) HX.out) (fun h => showRu_fits h)).mono ?_;rintro e w3 ⟨rfl, hb⟩;replace X1 := Lib.hid (X1.out.on hb); replace X2 := Lib.hid (X2.out.on hb); replace B2 := Lib.hid (Below.step B2.out hb)
 clear hb p0 p1 p2 p3 p4 p5;obtain ⟨p0, p1, p2, p3, p4, p5⟩ := X1.out.cells;have e1 := told_empty r; have e2 := told_eq r
 generalize (⟨(told (ruB r) (showRu r)).toArray⟩ : ByteArray) = tx at *
 cases hr : ruB r with
 | false =>
  rw [hr, Bool.not_false] at e1 e2;have HE : Hid (placeZ r = (zPl, false)) := by show _ = _; rw [placeZ, if_neg (by rw [hr]; simp)]
  clear hr;obtain ⟨v0, v1, v2⟩ := X2.out.cells;have z0 := frozen_of_row w3 k2 0 _ _ X2.out; have z1 := frozen_of_row w3 k2 1 _ _ X2.out; have z2 := frozen_of_row w3 k2 2 _ _ X2.out
  go_wp2_with fail
  have Y := (X2.out.set (.string ⟨#[]⟩) (.string ⟨#[]⟩) (.string ⟨#[]⟩)).cells;have BB : Below w.heap.size w (((w3.setCell ⟨k2, 0, none⟩ (.string ⟨#[]⟩)).setCell ⟨k2, 1, none⟩ (.string ⟨#[]⟩)).setCell ⟨k2, 2, none⟩ (.string ⟨#[]⟩)) := ((B2.out.setCell (p := ⟨k2, 0, none⟩) (Nat.le_of_lt HK2.out) _).setCell (p := ⟨k2, 1, none⟩) (Nat.le_of_lt HK2.out) _).setCell (p := ⟨k2, 2, none⟩) (Nat.le_of_lt HK2.out) _;refine bodyPost_ret (v := .tuple #[.agg #[.string ⟨#[]⟩, .string ⟨#[]⟩, .string ⟨#[]⟩], .bool false]) (by simp [results, Tryz.results11, go_sem, Y.1, Y.2.1, Y.2.2]) rfl ⟨?_, BB⟩;rw [HE.out]; rfl
 | true =>
  rw [hr, Bool.not_true] at e1 e2;obtain ⟨f1, f2, f3⟩ := ru_facts hr;have HF1 := Lib.hid f1; have HF2 := Lib.hid f2; have HF3 := Lib.hid f3; have HR := Lib.hid hr
  clear f1 f2 f3 hr
  cases hl : (r.head.toList == [108, 105, 110, 107]) with
  | true =>
   have HE : Hid (placeZ r = (zPl, false)) := by show _ = _; rw [placeZ, if_neg (by rw [show eqS r.head linkS = true by rw [eqS_link]; exact hl]; simp)]
   obtain ⟨v0, v1, v2⟩ := X2.out.cells;have z0 := frozen_of_row w3 k2 0 _ _ X2.out; have z1 := frozen_of_row w3 k2 1 _ _ X2.out; have z2 := frozen_of_row w3 k2 2 _ _ X2.out
   go_wp2_with fail
   have Y := (X2.out.set (.string ⟨#[]⟩) (.string ⟨#[]⟩) (.string ⟨#[]⟩)).cells;have BB : Below w.heap.size w (((w3.setCell ⟨k2, 0, none⟩ (.string ⟨#[]⟩)).setCell ⟨k2, 1, none⟩ (.string ⟨#[]⟩)).setCell ⟨k2, 2, none⟩ (.string ⟨#[]⟩)) := ((B2.out.setCell (p := ⟨k2, 0, none⟩) (Nat.le_of_lt HK2.out) _).setCell (p := ⟨k2, 1, none⟩) (Nat.le_of_lt HK2.out) _).setCell (p := ⟨k2, 2, none⟩) (Nat.le_of_lt HK2.out) _;refine bodyPost_ret (v := .tuple #[.agg #[.string ⟨#[]⟩, .string ⟨#[]⟩, .string ⟨#[]⟩], .bool false]) (by simp [results, Tryz.results11, go_sem, Y.1, Y.2.1, Y.2.2]) rfl ⟨?_, BB⟩;rw [HE.out]; rfl
  | false =>
   have HL : Hid (eqS r.head linkS = false) := by show _ = _; rw [eqS_link]; exact hl
   go_wp2_with fail
   refine (atVars_any r S w3 _ _ _ _ _ _ (fun k hk => Nat.lt_of_lt_of_le (HS.out k hk) B2.out.size) (RepRu.on (fun _ h => h) (fun j hj => B2.out.block j (HS.out j hj)) HX.out) HF2.out HF3.out).mono ?_;rintro e w4 ⟨rfl, hb⟩;replace X1 := Lib.hid (X1.out.on hb); replace X2 := Lib.hid (X2.out.on hb); replace B2 := Lib.hid (Below.step B2.out hb)
   clear hb p0 p1 p2 p3 p4 p5;obtain ⟨p0, p1, p2, p3, p4, p5⟩ := X1.out.cells
   cases hv : (atVarsL r.body && kind0 r.args == 1) with
   | false =>
    have HE : Hid (placeZ r = (zPl, false)) := by
     show _ = _
     rw [placeZ, if_neg (fun h => ?_)];rw [h.2.2.1, h.2.2.2] at hv; cases hv
    clear hv;obtain ⟨v0, v1, v2⟩ := X2.out.cells;have z0 := frozen_of_row w4 k2 0 _ _ X2.out; have z1 := frozen_of_row w4 k2 1 _ _ X2.out; have z2 := frozen_of_row w4 k2 2 _ _ X2.out
    go_wp2_with fail
    have Y := (X2.out.set (.string ⟨#[]⟩) (.string ⟨#[]⟩) (.string ⟨#[]⟩)).cells;have BB : Below w.heap.size w (((w4.setCell ⟨k2, 0, none⟩ (.string ⟨#[]⟩)).setCell ⟨k2, 1, none⟩ (.string ⟨#[]⟩)).setCell ⟨k2, 2, none⟩ (.string ⟨#[]⟩)) := ((B2.out.setCell (p := ⟨k2, 0, none⟩) (Nat.le_of_lt HK2.out) _).setCell (p := ⟨k2, 1, none⟩) (Nat.le_of_lt HK2.out) _).setCell (p := ⟨k2, 2, none⟩) (Nat.le_of_lt HK2.out) _;refine bodyPost_ret (v := .tuple #[.agg #[.string ⟨#[]⟩, .string ⟨#[]⟩, .string ⟨#[]⟩], .bool false]) (by simp [results, Tryz.results11, go_sem, Y.1, Y.2.1, Y.2.2]) rfl ⟨?_, BB⟩;rw [HE.out]; rfl
   | true =>
    have HP : Hid (placeZ r = if (bodyPlaceZ r).2 = true ∧ aggFits r (bodyPlaceZ r).1 = true then ((bodyPlaceZ r).1, true) else (zPl, false)) := by
     show _ = _
     rw [Bool.and_eq_true, beq_iff_eq] at hv;rw [placeZ, if_pos ⟨HR.out, HL.out, hv.1, hv.2⟩]
    clear hv;go_wp2_with fail
    refine (bodyPlace_any r S w4 _ _ _ _ _ _ (fun k hk => Nat.lt_of_lt_of_le (HS.out k hk) B2.out.size) (RepRu.on (fun _ h => h) (fun j hj => B2.out.block j (HS.out j hj)) HX.out) (Nat.le_trans HF1.out (by omega)) HF2.out HF3.out (lis_sizes HX.out.2.2.2.2.2.2.2.2.2)).mono ?_;rintro e w5 ⟨rfl, hb⟩;replace X1 := Lib.hid (X1.out.on hb); replace X2 := Lib.hid (X2.out.on hb); replace B2 := Lib.hid (Below.step B2.out hb)
    clear hb p0 p1 p2 p3 p4 p5;generalize bodyPlaceZ r = bp at *;obtain ⟨⟨bf, bt, bh⟩, bok⟩ := bp;rw [plRet];go_upto_region 4 with fail
    have m4 := alloc_new' w5 (.cells #[.string bf, .string bt, .string bh] 37);have d4 := below_alloc w5 (.cells #[.string bf, .string bt, .string bh] 37);generalize w5.alloc (.cells #[.string bf, .string bt, .string bh] 37) = w6 at *;obtain ⟨k4, hk4⟩ : ∃ k, w5.heap.size = k := ⟨_, rfl⟩;rw [hk4] at m4 ⊢;have X4 : Hid (BoxPl w6 k4 (.string bf) (.string bt) (.string bh)) := m4;replace X1 := Lib.hid (X1.out.on d4); replace X2 := Lib.hid (X2.out.on d4); replace B2 := Lib.hid (Below.step B2.out d4)
    clear m4 d4 hk4;obtain ⟨p0, p1, p2, p3, p4, p5⟩ := X1.out.cells;obtain ⟨q0, q1, q2⟩ := X4.out.cells
    cases bok with
    | false =>
     have HE : Hid (placeZ r = (zPl, false)) := by show _ = _; rw [HP.out, if_neg (by simp)]
     obtain ⟨v0, v1, v2⟩ := X2.out.cells;have z0 := frozen_of_row w6 k2 0 _ _ X2.out; have z1 := frozen_of_row w6 k2 1 _ _ X2.out; have z2 := frozen_of_row w6 k2 2 _ _ X2.out
     go_wp2_with fail
     have Y := (X2.out.set (.string ⟨#[]⟩) (.string ⟨#[]⟩) (.string ⟨#[]⟩)).cells;have BB : Below w.heap.size w (((w6.setCell ⟨k2, 0, none⟩ (.string ⟨#[]⟩)).setCell ⟨k2, 1, none⟩ (.string ⟨#[]⟩)).setCell ⟨k2, 2, none⟩ (.string ⟨#[]⟩)) := ((B2.out.setCell (p := ⟨k2, 0, none⟩) (Nat.le_of_lt HK2.out) _).setCell (p := ⟨k2, 1, none⟩) (Nat.le_of_lt HK2.out) _).setCell (p := ⟨k2, 2, none⟩) (Nat.le_of_lt HK2.out) _;refine bodyPost_ret (v := .tuple #[.agg #[.string ⟨#[]⟩, .string ⟨#[]⟩, .string ⟨#[]⟩], .bool false]) (by simp [results, Tryz.results11, go_sem, Y.1, Y.2.1, Y.2.2]) rfl ⟨?_, BB⟩;rw [HE.out]; rfl
    | true =>
     have HP2 : Hid (placeZ r = if aggFits r ⟨bf, bt, bh⟩ = true then (⟨bf, bt, bh⟩, true) else (zPl, false)) := by show _ = _; rw [HP.out]; simp
     cases ha : r.agg.toList.isEmpty with
     | true =>
      have ha' : (r.agg.toList == []) = true := by revert ha; cases r.agg.toList <;> simp
      have ha2 : (r.agg.toList != []) = false := by rw [bne, ha']; rfl
      have HE : Hid (placeZ r = (⟨bf, bt, bh⟩, true)) := by show _ = _; rw [HP2.out, aggFits, ha]; rfl
      obtain ⟨v0, v1, v2⟩ := X2.out.cells;have z0 := frozen_of_row w6 k2 0 _ _ X2.out; have z1 := frozen_of_row w6 k2 1 _ _ X2.out; have z2 := frozen_of_row w6 k2 2 _ _ X2.out
      go_wp2_with fail
      have Y := (X2.out.set (.string bf) (.string bt) (.string bh)).cells;have BB : Below w.heap.size w (((w6.setCell ⟨k2, 0, none⟩ (.string bf)).setCell ⟨k2, 1, none⟩ (.string bt)).setCell ⟨k2, 2, none⟩ (.string bh)) := ((B2.out.setCell (p := ⟨k2, 0, none⟩) (Nat.le_of_lt HK2.out) _).setCell (p := ⟨k2, 1, none⟩) (Nat.le_of_lt HK2.out) _).setCell (p := ⟨k2, 2, none⟩) (Nat.le_of_lt HK2.out) _;refine bodyPost_ret (v := .tuple #[.agg #[.string bf, .string bt, .string bh], .bool true]) (by simp [results, Tryz.results11, go_sem, Y.1, Y.2.1, Y.2.2]) rfl ⟨?_, BB⟩;rw [HE.out]; rfl
     | false =>
      have ha' : (r.agg.toList == []) = false := by revert ha; cases r.agg.toList <;> simp
      have ha2 : (r.agg.toList != []) = true := by rw [bne, ha']; rfl
      cases ht : bt.toList.isEmpty with
      | false =>
       have ht' : (bt.toList == []) = false := by revert ht; cases bt.toList <;> simp
       have ht2 : (bt.toList != []) = true := by rw [bne, ht']; rfl
       have HE : Hid (placeZ r = (zPl, false)) := by show _ = _; rw [HP2.out, aggFits, ha, ht]; rfl
       obtain ⟨v0, v1, v2⟩ := X2.out.cells;have z0 := frozen_of_row w6 k2 0 _ _ X2.out; have z1 := frozen_of_row w6 k2 1 _ _ X2.out; have z2 := frozen_of_row w6 k2 2 _ _ X2.out
       go_wp2_with fail
       have Y := (X2.out.set (.string ⟨#[]⟩) (.string ⟨#[]⟩) (.string ⟨#[]⟩)).cells;have BB : Below w.heap.size w (((w6.setCell ⟨k2, 0, none⟩ (.string ⟨#[]⟩)).setCell ⟨k2, 1, none⟩ (.string ⟨#[]⟩)).setCell ⟨k2, 2, none⟩ (.string ⟨#[]⟩)) := ((B2.out.setCell (p := ⟨k2, 0, none⟩) (Nat.le_of_lt HK2.out) _).setCell (p := ⟨k2, 1, none⟩) (Nat.le_of_lt HK2.out) _).setCell (p := ⟨k2, 2, none⟩) (Nat.le_of_lt HK2.out) _;refine bodyPost_ret (v := .tuple #[.agg #[.string ⟨#[]⟩, .string ⟨#[]⟩, .string ⟨#[]⟩], .bool false]) (by simp [results, Tryz.results11, go_sem, Y.1, Y.2.1, Y.2.2]) rfl ⟨?_, BB⟩;rw [HE.out]; rfl
      | true =>
       have ht' : (bt.toList == []) = true := by revert ht; cases bt.toList <;> simp
       have ht2 : (bt.toList != []) = false := by rw [bne, ht']; rfl
       cases hh : (bh.toList == bf.toList) with
       | true =>
        have hh2 : (bh.toList != bf.toList) = false := by rw [bne, hh]; rfl
        have HE : Hid (placeZ r = (⟨bf, bt, bh⟩, true)) := by show _ = _; rw [HP2.out, aggFits, ha, ht, show eqS bh bf = true from hh]; rfl
        obtain ⟨v0, v1, v2⟩ := X2.out.cells;have z0 := frozen_of_row w6 k2 0 _ _ X2.out; have z1 := frozen_of_row w6 k2 1 _ _ X2.out; have z2 := frozen_of_row w6 k2 2 _ _ X2.out
        go_wp2_with fail
        have Y := (X2.out.set (.string bf) (.string bt) (.string bh)).cells;have BB : Below w.heap.size w (((w6.setCell ⟨k2, 0, none⟩ (.string bf)).setCell ⟨k2, 1, none⟩ (.string bt)).setCell ⟨k2, 2, none⟩ (.string bh)) := ((B2.out.setCell (p := ⟨k2, 0, none⟩) (Nat.le_of_lt HK2.out) _).setCell (p := ⟨k2, 1, none⟩) (Nat.le_of_lt HK2.out) _).setCell (p := ⟨k2, 2, none⟩) (Nat.le_of_lt HK2.out) _;refine bodyPost_ret (v := .tuple #[.agg #[.string bf, .string bt, .string bh], .bool true]) (by simp [results, Tryz.results11, go_sem, Y.1, Y.2.1, Y.2.2]) rfl ⟨?_, BB⟩;rw [HE.out]; rfl
       | false =>
        have hh2 : (bh.toList != bf.toList) = true := by rw [bne, hh]; rfl
        have HE : Hid (placeZ r = (zPl, false)) := by show _ = _; rw [HP2.out, aggFits, ha, ht, show eqS bh bf = false from hh]; rfl
        obtain ⟨v0, v1, v2⟩ := X2.out.cells;have z0 := frozen_of_row w6 k2 0 _ _ X2.out; have z1 := frozen_of_row w6 k2 1 _ _ X2.out; have z2 := frozen_of_row w6 k2 2 _ _ X2.out
        go_wp2_with fail
        have Y := (X2.out.set (.string ⟨#[]⟩) (.string ⟨#[]⟩) (.string ⟨#[]⟩)).cells;have BB : Below w.heap.size w (((w6.setCell ⟨k2, 0, none⟩ (.string ⟨#[]⟩)).setCell ⟨k2, 1, none⟩ (.string ⟨#[]⟩)).setCell ⟨k2, 2, none⟩ (.string ⟨#[]⟩)) := ((B2.out.setCell (p := ⟨k2, 0, none⟩) (Nat.le_of_lt HK2.out) _).setCell (p := ⟨k2, 1, none⟩) (Nat.le_of_lt HK2.out) _).setCell (p := ⟨k2, 2, none⟩) (Nat.le_of_lt HK2.out) _;refine bodyPost_ret (v := .tuple #[.agg #[.string ⟨#[]⟩, .string ⟨#[]⟩, .string ⟨#[]⟩], .bool false]) (by simp [results, Tryz.results11, go_sem, Y.1, Y.2.1, Y.2.2]) rfl ⟨?_, BB⟩;rw [HE.out]; rfl
end Go.Proofs.YtcmlojigcgihbaaGreatDoor
namespace Go.Proofs.YtcmlojigcgihbaaGreatDoor
open Go.RowKit
def locZ (p : Pr) : Int × Int := if (checkZ p).1 = 0 then placesErr p.rules 0 else checkZ p
set_option maxRecDepth 100000 in
set_option maxHeartbeats 4000000 in
theorem locCheck_any (p : Pr) (S : Nat → Prop) (w : World) (c0 c1 c2 : Value) (hS : ∀ k, S k → k < w.heap.size) (hg : 0 < w.heap.size) (htab : TabOk w) (hp : RepPr S w p c0 c1 c2) :
  Calls Tryz.prog 9 #[.agg #[c0, c1, c2]] w fun e w' => e = .returned (.tuple #[.int .i64 (locZ p).1, .int .i64 (locZ p).2]) ∧ Below w.heap.size w w' := by
 have hlb := SlG.bytes hp.2.2;have HP := Lib.hid hp; have HS := Lib.hid hS; have HG := Lib.hid hg; have HT := Lib.hid htab
 obtain ⟨f0, f1, rfl⟩ := SlG.form hp.1;obtain ⟨f2, f3, rfl⟩ := SlG.form hp.2.1;obtain ⟨f4, f5, rfl⟩ := SlG.form hp.2.2;clear hp hS hg htab;go_enter Tryz.func9, Tryz.ntmps9
 go_upto_region 1 with fail
 have x0 := boxPr_new w (.slice f0 p.decls.length f1) (.slice f2 p.facts.length f3) (.slice f4 p.rules.length f5);have d0 := below_alloc w (.cells #[.slice f0 p.decls.length f1, .slice f2 p.facts.length f3, .slice f4 p.rules.length f5] 26);generalize w.alloc (.cells #[.slice f0 p.decls.length f1, .slice f2 p.facts.length f3, .slice f4 p.rules.length f5] 26) = w1 at *;have X1 := Lib.hid x0; have B1 := Lib.hid d0
 clear x0 d0;obtain ⟨p0, p1, p2⟩ := X1.out.cells;go_wp2_with fail
 refine (check_any p S w1 _ _ _ (fun k hk => Nat.lt_of_lt_of_le (HS.out k hk) B1.out.size) (RepPr.on (fun _ h => h) (fun k hk => B1.out.block k (HS.out k hk)) HP.out)).mono ?_;rintro e w2 ⟨rfl, hb⟩;have X2 := Lib.hid (X1.out.on hb); have B2 := Lib.hid (Below.step B1.out hb)
 clear hb p0 p1 p2 X1 B1;obtain ⟨p0, p1, p2⟩ := X2.out.cells;have HLZ : Hid (locZ p = if (checkZ p).1 = 0 then placesErr p.rules 0 else checkZ p) := rfl;generalize checkZ p = cz at *;obtain ⟨ce, cn⟩ := cz
 by_cases hz : ce = 0
 ·have HE : Hid (locZ p = placesErr p.rules 0) := by show _ = _; rw [HLZ.out, if_pos hz]
  subst hz;go_wp2_with fail
  clear p0 p1 p2;go_loopw [22] (fun i wr => ∃ k : Nat, k ≤ p.rules.length ∧ i = .int .i64 k ∧ Hid (locZ p = placesErr (p.rules.drop k) k) ∧ Below w2.heap.size w2 wr) (fun i _ => p.rules.length - (intOf i).toNat)
  case atStart => exact ⟨0, Nat.zero_le _, rfl, HE.out, Below.refl _ _⟩
  case round =>
   obtain ⟨k, hk, rfl, hrec, hbel⟩ := hrel
   by_cases hl : k < p.rules.length
   ·have BW := Lib.hid (Below.step B2.out hbel)
    obtain ⟨-, -, lb, lo, xa, xc, ya, yc, rfl, hSb, g0, g1, g2, g3, g4, g5, g⟩ := RepRus.at (RepRus.on (fun _ h => h) (fun j hj => BW.out.block j (HS.out j hj)) HP.out.2.2) k hl;have HD := Lib.hid (List.drop_eq_getElem_cons hl);have GR := Lib.hid g;clear g hSb;generalize p.rules[k] = r at *;have hba := below_alloc wr (.cells #[.string r.label, .string r.head, .slice xa r.args.length xc, .string r.agg, .int .i64 r.at', .slice ya r.body.length yc] 43);have hbx := boxRu_new wr (.string r.label) (.string r.head) (.slice xa r.args.length xc) (.string r.agg) (.int .i64 r.at') (.slice ya r.body.length yc);have HB := Lib.hid (Below.step hbel hba);have HBW := Lib.hid (Below.step BW.out hba);have HR := Lib.hid (RepRu.on (fun _ h => h) (fun j hj => hba.block j (Nat.lt_of_lt_of_le (HS.out j hj) BW.out.size)) GR.out);obtain ⟨q0, q1, q2, q3, q4, q5⟩ := hbx.cells;clear hba hbx hbel GR BW;go_wp2_with fail
    clear g0 g1 g2 g3 g4 g5;generalize wr.alloc (.cells #[.string r.label, .string r.head, .slice xa r.args.length xc, .string r.agg, .int .i64 r.at', .slice ya r.body.length yc] 43) = wa at *;refine (locPlace_any r S wa _ _ _ _ _ _ (fun j hj => Nat.lt_of_lt_of_le (HS.out j hj) HBW.out.size) (Nat.lt_of_lt_of_le HG.out HBW.out.size) (TabOk.below HT.out HG.out HBW.out) HR.out).mono ?_;rintro e w6 ⟨rfl, hb6⟩;have HB6 := Lib.hid (Below.step HB.out hb6);have HPE : Hid (placesErr (r :: p.rules.drop (k + 1)) k = if (placeZ r).2 = true then placesErr (p.rules.drop (k + 1)) (k + 1) else (70, (k : Int))) := by show _ = _; rw [placesErr]
    clear hb6 q0 q1 q2 q3 q4 q5 HBW HR;generalize hpz : placeZ r = pz at *;clear hpz;obtain ⟨⟨bf, bt, bh⟩, bok⟩ := pz;rw [plRet];have hb7 := below_alloc w6 (.cells #[.string bf, .string bt, .string bh] 37);have HB7 := Lib.hid (Below.step HB6.out hb7);clear hb7
    cases bok with
    | true =>
     have HF : Hid (locZ p = placesErr (p.rules.drop (k + 1)) (k + 1)) := by show _ = _; rw [hrec.out, HD.out, HPE.out, if_pos rfl]
     go_wp2_with fail
     go_roundw
     case rel => exact ⟨k + 1, hl, by go_num, HF, HB7.out⟩
     case measure => simp [intOf]; omega
    | false =>
     have HF : Hid (locZ p = (70, (k : Int))) := by show _ = _; rw [hrec.out, HD.out, HPE.out, if_neg (by simp)]
     go_wp2_with fail
     go_ret2
     exact ⟨ret_ii HF.out, Below.step B2.out HB7.out⟩
   ·have HF : Hid (locZ p = (0, -1)) := by show _ = _; rw [hrec.out, List.drop_of_length_le (by omega), placesErr]
    go_wp2_with fail
    go_ret2
    exact ⟨ret_ii HF.out, Below.step B2.out hbel⟩
 ·have HE : Hid (locZ p = (ce, cn)) := by show _ = _; rw [HLZ.out, if_neg hz]
  have hz1 : (ce == 0) = false := by simp [hz]
  have hz2 : (ce != 0) = true := by simp [hz]
  clear hz;go_wp2_with fail
  go_ret2
  exact ⟨ret_ii HE.out, B2.out⟩
end Go.Proofs.YtcmlojigcgihbaaGreatDoor
namespace Go.Proofs.YtcmlojigcgihbaaGreatDoor
open Go.RowKit
def CheckPost (p : Pr) (w : World) (e : Ending) (w' : World) : Prop :=
 Below w.heap.size w w' ∧ (((locZ p).1 ≠ 0 ∧ e = .returned (.tuple #[.int .i64 (locZ p).1, .int .i64 (locZ p).2])) ∨
  ((locZ p).1 = 0 ∧ ∃ L c, StrataR p L c ∧ e = .returned (.tuple #[.int .i64 c, .int .i64 (-1)])))
set_option maxRecDepth 100000 in
set_option maxHeartbeats 2000000 in
theorem strataCheck_any (p : Pr) (S : Nat → Prop) (w : World) (c0 c1 c2 : Value) (hS : ∀ k, S k → k < w.heap.size) (hg : 0 < w.heap.size) (htab : TabOk w) (hp : RepPr S w p c0 c1 c2) :
  Calls Tryz.prog 16 #[.agg #[c0, c1, c2]] w (CheckPost p w) := by
 have HP := Lib.hid hp; have HS := Lib.hid hS; have HG := Lib.hid hg; have HT := Lib.hid htab
 obtain ⟨f0, f1, rfl⟩ := SlG.form hp.1;obtain ⟨f2, f3, rfl⟩ := SlG.form hp.2.1;obtain ⟨f4, f5, rfl⟩ := SlG.form hp.2.2;clear hp hS hg htab;go_enter Tryz.func16, Tryz.ntmps16
 go_upto_region 1 with fail
 have x0 := boxPr_new w (.slice f0 p.decls.length f1) (.slice f2 p.facts.length f3) (.slice f4 p.rules.length f5);have d0 := below_alloc w (.cells #[.slice f0 p.decls.length f1, .slice f2 p.facts.length f3, .slice f4 p.rules.length f5] 26);generalize w.alloc (.cells #[.slice f0 p.decls.length f1, .slice f2 p.facts.length f3, .slice f4 p.rules.length f5] 26) = w1 at *;have X := Lib.hid x0; have B := Lib.hid d0
 have P := Lib.hid (RepPr.on (S' := fun k => k < w.heap.size) HS.out (fun k hk => d0.block k (HS.out k hk)) HP.out);clear x0 d0 HP HS;obtain ⟨p0, p1, p2⟩ := X.out.cells;go_wp2_with fail
 refine (locCheck_any p (fun k => k < w.heap.size) w1 _ _ _ (fun k hk => Nat.lt_of_lt_of_le hk B.out.size) (Nat.lt_of_lt_of_le HG.out B.out.size) (TabOk.below HT.out HG.out B.out) P.out).mono ?_;rintro e w2 ⟨rfl, hb⟩;have X2 := Lib.hid (X.out.on hb);have P2 := Lib.hid (RepPr.on (fun _ h => h) (fun k (hk : k < w.heap.size) => hb.block k (Nat.lt_of_lt_of_le hk B.out.size)) P.out);have B2 := Lib.hid (Below.step B.out hb);clear hb p0 p1 p2 P X B
 cases hc : ((locZ p).1 == 0) with
 | false =>
  have HC : Hid ((locZ p).1 ≠ 0) := by show _ ≠ _; simpa using hc
  go_wp2_with fail
  go_ret2
  exact ⟨B2.out, .inl ⟨HC.out, rfl⟩⟩
 | true =>
  have HC : Hid ((locZ p).1 = 0) := by show _ = _; simpa using hc
  obtain ⟨p0, p1, p2⟩ := X2.out.cells;go_wp2_with fail
  refine (strata_any p (fun k => k < w.heap.size) w2 _ _ _ (fun k hk => Nat.lt_of_lt_of_le hk B2.out.size) P2.out).mono ?_;intro e w3 hs;obtain ⟨L, c, v, rfl, -, hr, hb⟩ := strata_rep hs;have B3 := Lib.hid (Below.step B2.out hb);have HR := Lib.hid hr;clear hs hr hb p0 p1 p2 hc;go_wp2_with fail
  go_ret2
  exact ⟨B3.out, .inr ⟨HC.out, L, c, HR.out, rfl⟩⟩
end Go.Proofs.YtcmlojigcgihbaaGreatDoor
namespace Go.Proofs.YtcmlojigcgihbaaGreatDoor
open Go.ChangeShapes Go.WideShapes Go.ChangeAt Go.RowKit Go.Deep Go.Joins
theorem cellsInt : Tryz.prog.cellsOf 3 = 1 := by kernel_rfl
theorem i64_wf {n : Int} (h : (Lit.int .i64 n).wf = true) : I64 n := bounds_i64 h
section
variable {H : Type} {enc : TypeId × Value → H} {W : World}
theorem weightsAll_mem {P : Program} {e : TypeId} {ds : List (DataW H)} {d : DataW H} (h : d ∈ ds) (n : Nat) (hn : n ∈ d.weights P e) : n ∈ DataW.weightsAll P e ds := by
 induction ds with
 | nil => cases h
 | cons x r ih =>
  rw [DataW.weightsAll, List.mem_append];rcases List.mem_cons.1 h with rfl | h
  ·exact Or.inl hn
  ·exact Or.inr (ih h)
def Fits (P : Program) (t : TypeId) (d : DataW H) : Prop := ∀ n ∈ d.weights P t, n ≤ reachBytes
theorem cell_lt {w : World} {a : Addr} {v : Value} (h : w.cell? a = some v) : a.block < w.heap.size := by
 by_cases hlt : a.block < w.heap.size
 ·exact hlt
 ·have hn : w.heap[a.block]? = none := by simp; omega
  simp [World.cell?, hn] at h
theorem sizeOf_mem {D : Nat → DataW H} {len i : Nat} (h : i < len) {sp : List (DataW H)} : SizeOf.sizeOf (D i) < SizeOf.sizeOf (DataW.slice ((List.range len).map D) sp) := by
 have := List.sizeOf_lt_of_mem (List.mem_map_of_mem (f := D) (List.mem_range.2 h));simp only [DataW.slice.sizeOf_spec]
 omega
set_option maxRecDepth 100000 in
end
end Go.Proofs.YtcmlojigcgihbaaGreatDoor
namespace Go.Proofs.YtcmlojigcgihbaaGreatDoor
open Go.ChangeShapes Go.WideShapes Go.ChangeAt Go.RowKit
theorem own : ownKnob Tryz.prog.godebug = none := by kernel_rfl
theorem laidOut : laidOutB Tryz.prog = true := by kernel_rfl
section
variable {H : Type} {enc : TypeId × Value → H}
theorem trodAll_below {W W' : World} (hb : Below W.heap.size W W') : ∀ (ts : List TypeId) (vs : List Value) (ds : List (DataW H)) (ps : List MemPlace), DataW.TrodAll enc Tryz.prog W 0 (fun _ => true) true ts vs ds ps →
  (∀ t ∈ ts, Tryz.prog.readableRec t = true ∧ t < Tryz.prog.types.size) → (∀ x ∈ ps, x.block < W.heap.size) → DataW.TrodAll enc Tryz.prog W' 0 (fun b => decide (b < W.heap.size)) true ts vs ds ps
 | [], [], [], ps, h, _, _ => h
 | t :: ts, v :: vs, d :: ds, ps, h, ht, hp => by
  obtain ⟨p, q, h1, h2, rfl⟩ := h;obtain ⟨r1, r2⟩ := ht t (by simp);exact ⟨p, q, Below.trod laidOut r1 r2 h1 hb (fun x hx => hp x (by simp [hx])), trodAll_below hb ts vs ds q h2 (fun t' h' => ht t' (by simp [h'])) (fun x hx => hp x (by simp [hx])), rfl⟩
 | [], _ :: _, _, _, h, _, _ => by cases h
 | _ :: _, [], _, _, h, _, _ => by cases h
 | [], [], _ :: _, _, h, _, _ => by cases h
 | _ :: _, _ :: _, [], _, h, _, _ => by cases h
theorem law_post {fn : Func} {s : ChangeSpec} {W W' : World} {args : Array Value} {ds gs : List (DataW H)} {before : List MemPlace}
  (hvars : s.vars = []) (hres : fn.resultTypes = #[4]) (hread : ∀ t ∈ fn.params.toList, Tryz.prog.readableRec t = true ∧ t < Tryz.prog.types.size)
  (hW : DataW.Whole enc Tryz.prog fn.params.toList s.vars false W args.toList ds gs before)
  (hs : s.fn H (ds ++ gs) = { results := [.lit (.bool true)], args := ds })
  (hb : Below W.heap.size W W') : s.post enc Tryz.prog fn false true false false W args (.bool true) W' := by
 have hW' := hW;obtain ⟨p, q, hA, hV, rfl, hfz, hnd⟩ := hW;rw [hvars] at hV;obtain ⟨rfl, rfl⟩ := trodVars_none hV;refine ⟨ds, [], p ++ [], [], p, [], hW', ?_, ?_, ?_, hb.frame _, fun h => by cases h⟩
 ·rw [hres, hs]
  exact trodAll_cons_mk (shut_bool Tryz.underlying4 _) trodAll_mk0
 ·rw [hs]
  exact trodAll_below hb _ _ _ _ hA hread (fun x hx => hW'.lt x (by simp [hx]))
 ·rw [hs, hvars]
  rfl
theorem fits_cons {t : TypeId} {ts : List TypeId} {d : DataW H} {ds : List (DataW H)} (h : (DataW.weightsEach Tryz.prog (t :: ts) (d :: ds)).all (· ≤ reachBytes) = true) :
  Fits Tryz.prog t d ∧ (DataW.weightsEach Tryz.prog ts ds).all (· ≤ reachBytes) = true := by
 rw [DataW.weightsEach, List.all_append, Bool.and_eq_true] at h;exact ⟨fun n hn => by simpa using (List.all_eq_true.1 h.1) n hn, h.2⟩
end
end Go.Proofs.YtcmlojigcgihbaaGreatDoor
namespace Go.Proofs.YtcmlojigcgihbaaGreatDoor
open Go.ChangeShapes Go.WideShapes Go.ChangeAt Go.RowKit
theorem gTabType : (Tryz.prog.globals[0]?).map (·.type) = some 218 := by kernel_rfl
theorem cellsTab : Tryz.prog.cellsOf 218 = 20 := by kernel_rfl
theorem cellsU64 : Tryz.prog.cellsOf 211 = 1 := by kernel_rfl
theorem tab_of_laid {P : Program} {W : World} {name : String} {k : IntKind} {zs : List Int} {g : Nat} {t e : TypeId} {n : Nat}
  (hg : P.globalNamed name = some g) (hty : (P.globals[g]?).map (·.type) = some t) (ht : P.underlying t = some (.array n e)) (he : P.underlying e = some (.int k)) (hce : P.cellsOf e = 1) (hct : P.cellsOf t = n) :
  ∀ (laid : List (String × DataW Unit)) (ps : List MemPlace), DataW.LaidVars P W laid ps → (name, Lib.tabData k zs) ∈ laid → Lib.TabIs P W name k zs
 | [], _, _, hm => by cases hm
 | x :: rest, ps, h, hm => by
  obtain ⟨g', t', cs, fuel, p, q, hg', ht', hvar, hd, hq, _⟩ := h;rcases List.mem_cons.1 hm with rfl | hm
  ·obtain rfl := Option.some.inj (hg.symm.trans hg')
   obtain rfl := Option.some.inj (hty.symm.trans ht');unfold Lib.TabIs;rw [hvar, ← Lib.cells_of_tab ht he hce hct hd]
  ·exact tab_of_laid hg hty ht he hce hct rest q hq hm
theorem tabOk_of_laid {W : World} {laid : List (String × DataW Unit)} (h : laidMet Tryz.prog laid W) (hm : ("internal/strconv.uint64pow10", Rows.laid_internal_strconv_uint64pow10) ∈ laid) : TabOk W := by
 obtain ⟨ps, h1, _⟩ := h;exact tab_of_laid gTab gTabType Tryz.underlying218 Tryz.underlying211 cellsU64 cellsTab laid ps h1 hm
theorem tab_lt {W : World} (h : TabOk W) : 0 < W.heap.size := by
 have := Lib.TabIs.cell h gTab 0 (by decide);exact cell_lt this
def setTab (w : World) (g : Nat) (cs : Array Value) : World :=
 { w with heap := w.heap.modify g fun
   | .cells _ t frozen => .cells cs t frozen
   | o => o }
noncomputable def laidWorld (os : Os) : World :=
 setTab (setTab (setTab (World.holding Tryz.prog os ⟨#[], #[], []⟩)
  0 #[.int .u64 1, .int .u64 10, .int .u64 100, .int .u64 1000, .int .u64 10000, .int .u64 100000, .int .u64 1000000, .int .u64 10000000, .int .u64 100000000, .int .u64 1000000000, .int .u64 10000000000, .int .u64 100000000000, .int .u64 1000000000000, .int .u64 10000000000000, .int .u64 100000000000000, .int .u64 1000000000000000, .int .u64 10000000000000000, .int .u64 100000000000000000, .int .u64 1000000000000000000, .int .u64 10000000000000000000])
  1 #[.int .u8 0, .int .u8 1, .int .u8 28, .int .u8 2, .int .u8 29, .int .u8 14, .int .u8 24, .int .u8 3, .int .u8 30, .int .u8 22, .int .u8 20, .int .u8 15, .int .u8 25, .int .u8 17, .int .u8 4, .int .u8 8, .int .u8 31, .int .u8 27, .int .u8 13, .int .u8 23, .int .u8 21, .int .u8 19, .int .u8 16, .int .u8 7, .int .u8 26, .int .u8 12, .int .u8 18, .int .u8 6, .int .u8 11, .int .u8 5, .int .u8 10, .int .u8 9])
  2 #[.int .u8 0, .int .u8 1, .int .u8 56, .int .u8 2, .int .u8 57, .int .u8 49, .int .u8 28, .int .u8 3, .int .u8 61, .int .u8 58, .int .u8 42, .int .u8 50, .int .u8 38, .int .u8 29, .int .u8 17, .int .u8 4, .int .u8 62, .int .u8 47, .int .u8 59, .int .u8 36, .int .u8 45, .int .u8 43, .int .u8 51, .int .u8 22, .int .u8 53, .int .u8 39, .int .u8 33, .int .u8 30, .int .u8 24, .int .u8 18, .int .u8 12, .int .u8 5, .int .u8 63, .int .u8 55, .int .u8 48, .int .u8 27, .int .u8 60, .int .u8 41, .int .u8 37, .int .u8 16, .int .u8 46, .int .u8 35, .int .u8 44, .int .u8 21, .int .u8 52, .int .u8 32, .int .u8 23, .int .u8 11, .int .u8 54, .int .u8 26, .int .u8 40, .int .u8 15, .int .u8 34, .int .u8 20, .int .u8 31, .int .u8 10, .int .u8 25, .int .u8 14, .int .u8 19, .int .u8 9, .int .u8 13, .int .u8 8, .int .u8 7, .int .u8 6]
end Go.Proofs.YtcmlojigcgihbaaGreatDoor
