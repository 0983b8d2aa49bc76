/-
  LocPlaceAll
-/
import Derived.Test.YtjohcnhiblfbnaaGreatDoorR12
import Derived.Test.YtjohcnhiblfbnaaGreatDoorR21
namespace Go.Proofs.YtjohcnhiblfbnaaGreatDoor
open Go.RowKit
theorem placesL_all (p : ByteArray → Prop) : ∀ (l : List Li) (acc : List ByteArray), (∀ s ∈ acc, p s) → (∀ x ∈ l, p (name0 x.args)) → ∀ s ∈ placesL acc l, p s
 | [], acc, h, _ => h
 | x :: l, acc, h, hl => by
  rw [placesL]
  split
  ·refine placesL_all p l _ (fun s hs => ?_) (fun y hy => hl y (List.mem_cons_of_mem _ hy))
   rcases List.mem_append.1 hs with hs | hs
   ·exact h s hs
   ·rw [List.mem_singleton.1 hs]; exact hl x (List.mem_cons_self ..)
  ·exact placesL_all p l acc h (fun y hy => hl y (List.mem_cons_of_mem _ hy))
theorem name0_size {S : Nat → Prop} {w : World} {l : List Tm} {v : Value} (h : RepMs S w l v) : (name0 l).size ≤ maxLen := by
 obtain ⟨a, cap, rfl⟩ := SlG.form h
 by_cases h0 : 0 < l.length
 ·obtain ⟨-, -, b, o, fa, fc, ga, gc, -, -, -, -, -, -, -, -, -, t⟩ := RepMs.at h 0 h0
  rw [(kind0_at h0).2]
  exact (RepM.bounds t).2
 ·cases l with
  | nil => exact Nat.zero_le _
  | cons x m => simp at h0
theorem lis_names {S : Nat → Prop} {w : World} {l : List Li} {v : Value} (h : RepLis S w l v) : ∀ x ∈ l, (name0 x.args).size ≤ maxLen := by
 intro x hx
 obtain ⟨i, hi, rfl⟩ := List.mem_iff_getElem.1 hx
 obtain ⟨a, cap, rfl⟩ := SlG.form h
 obtain ⟨-, -, b, o, ga, gc, -, -, -, -, -, g⟩ := RepLis.at h i hi
 exact name0_size g.2.2.2.2
theorem lis_sizes {S : Nat → Prop} {w : World} {l : List Li} {v : Value} (h : RepLis S w l v) : ∀ s ∈ placesL [] l, s.size ≤ maxLen :=
 placesL_all _ l [] (fun _ h => by cases h) (lis_names h)
theorem atomB_pos {s : ByteArray} {l : List Tm} (h : atomB s l = true) : 0 < l.length := by
 rw [atomB] at h
 simp only [Bool.and_eq_true] at h
 have := (listB_bounds h.2.1).1
 omega
theorem ru_facts {r : Ru} (h : ruB r = true) : r.body.length ≤ 8 ∧ (∀ x ∈ r.body, hasPl x = true → 0 < x.args.length) ∧ 0 < r.args.length := by
 rw [ruB] at h
 simp only [Bool.and_eq_true] at h
 obtain ⟨-, h1, -, h2⟩ := h
 obtain ⟨b1, b2, b3⟩ := listB_bounds h2
 refine ⟨by omega, fun x hx hp => ?_, atomB_pos h1⟩
 have hl := b3 x hx
 rw [hasPl, Bool.or_eq_true, beq_iff_eq, beq_iff_eq] at hp
 rw [liB] at hl
 rcases hp with hp | hp
 ·rw [if_pos hp] at hl; exact atomB_pos hl
 ·rw [if_neg (by omega), if_pos hp] at hl; exact atomB_pos hl
theorem showRu_ne (r : Ru) : (showRu r).isEmpty = false := by rw [showRu]; cases r.label.data.toList <;> rfl
theorem told_empty (r : Ru) : (⟨(told (ruB r) (showRu r)).toArray⟩ : ByteArray).toList.isEmpty = !ruB r := by
 rw [Lib.toList_data]
 cases ruB r with
 | true => exact showRu_ne r
 | false => rfl
theorem told_eq (r : Ru) : ((⟨(told (ruB r) (showRu r)).toArray⟩ : ByteArray).toList == []) = !ruB r := by
 rw [← told_empty]
 cases (⟨(told (ruB r) (showRu r)).toArray⟩ : ByteArray).toList <;> rfl
set_option maxRecDepth 100000 in
set_option maxHeartbeats 4000000 in
theorem locPlace_any (r : Ru) (S : Nat → Prop) (w : World) (c0 c1 c2 c3 c4 c5 : Value) (hS : ∀ k, S k → k < w.heap.size) (hg : 0 < w.heap.size) (htab : TabOk w) (hx : RepRu S w r c0 c1 c2 c3 c4 c5) :
  Calls Tryz.prog 15 #[.agg #[c0, c1, c2, c3, c4, c5]] w fun e w' => e = plRet (placeZ r) ∧ Below w.heap.size w w' := by
 have HX := Lib.hid hx; have HS := Lib.hid hS; have HG := Lib.hid hg; have HT := Lib.hid htab
 obtain ⟨fa, fc, xa, xc, rfl, rfl, rfl, rfl, rfl, rfl⟩ := hx.form
 clear hx hS hg htab
 go_enter Tryz.func15, Tryz.ntmps15
 go_upto_region 1 with fail
 have mk := boxRu_new w (.string r.label) (.string r.head) (.slice fa r.args.length fc) (.string r.agg) (.int .i64 r.at') (.slice xa r.body.length xc)
 have d1 := below_alloc w (.cells #[.string r.label, .string r.head, .slice fa r.args.length fc, .string r.agg, .int .i64 r.at', .slice xa r.body.length xc] 43)
 have s1 := World.size_alloc w (.cells #[.string r.label, .string r.head, .slice fa r.args.length fc, .string r.agg, .int .i64 r.at', .slice xa r.body.length xc] 43)
 generalize w.alloc (.cells #[.string r.label, .string r.head, .slice fa r.args.length fc, .string r.agg, .int .i64 r.at', .slice xa r.body.length xc] 43) = w1 at *
 have m2 := alloc_new' w1 (.cells #[.string ⟨#[]⟩, .string ⟨#[]⟩, .string ⟨#[]⟩] 37)
 have d2 := below_alloc w1 (.cells #[.string ⟨#[]⟩, .string ⟨#[]⟩, .string ⟨#[]⟩] 37)
 have s2 := World.size_alloc w1 (.cells #[.string ⟨#[]⟩, .string ⟨#[]⟩, .string ⟨#[]⟩] 37)
 generalize w1.alloc (.cells #[.string ⟨#[]⟩, .string ⟨#[]⟩, .string ⟨#[]⟩] 37) = w2 at *
 rw [s1] at m2 s2
 have X1 : Hid (BoxRu w2 w.heap.size (.string r.label) (.string r.head) (.slice fa r.args.length fc) (.string r.agg) (.int .i64 r.at') (.slice xa r.body.length xc)) := mk.on d2
 have X2 : Hid (BoxPl w2 (w.heap.size + 1) (.string ⟨#[]⟩) (.string ⟨#[]⟩) (.string ⟨#[]⟩)) := m2
 have B2 : Hid (Below w.heap.size w w2) := Below.step d1 d2
 clear mk m2 d1 d2 s1 s2
 obtain ⟨k2, hk2⟩ : ∃ k, w.heap.size + 1 = k := ⟨_, rfl⟩
 rw [hk2] at X2 ⊢
 have HK2 : Hid (w.heap.size < k2) := by show _ < _; omega
 clear hk2
 obtain ⟨p0, p1, p2, p3, p4, p5⟩ := X1.out.cells
 go_wp2_with fail
 refine (prRu_any r S w2 _ _ _ _ _ _ (fun k hk => Nat.lt_of_lt_of_le (HS.out k hk) B2.out.size) (Nat.lt_of_lt_of_le HG.out B2.out.size) (TabOk.below HT.out HG.out B2.out) (RepRu.on (fun _ h => h) (fun j hj => B2.out.block j (HS.out j hj)) HX.out) (fun h => showRu_fits h)).mono ?_
 rintro e w3 ⟨rfl, hb⟩
 replace X1 := Lib.hid (X1.out.on hb); replace X2 := Lib.hid (X2.out.on hb); replace B2 := Lib.hid (Below.step B2.out hb)
 clear hb p0 p1 p2 p3 p4 p5
 obtain ⟨p0, p1, p2, p3, p4, p5⟩ := X1.out.cells
 have e1 := told_empty r; have e2 := told_eq r
 generalize (⟨(told (ruB r) (showRu r)).toArray⟩ : ByteArray) = tx at *
 cases hr : ruB r with
 | false =>
  rw [hr, Bool.not_false] at e1 e2
  have HE : Hid (placeZ r = (zPl, false)) := by show _ = _; rw [placeZ, if_neg (by rw [hr]; simp)]
  clear hr
  obtain ⟨v0, v1, v2⟩ := X2.out.cells
  have z0 := frozen_of_row w3 k2 0 _ _ X2.out; have z1 := frozen_of_row w3 k2 1 _ _ X2.out; have z2 := frozen_of_row w3 k2 2 _ _ X2.out
  go_wp2_with fail
  have Y := (X2.out.set (.string ⟨#[]⟩) (.string ⟨#[]⟩) (.string ⟨#[]⟩)).cells
  have BB : Below w.heap.size w (((w3.setCell ⟨k2, 0, none⟩ (.string ⟨#[]⟩)).setCell ⟨k2, 1, none⟩ (.string ⟨#[]⟩)).setCell ⟨k2, 2, none⟩ (.string ⟨#[]⟩)) := ((B2.out.setCell (p := ⟨k2, 0, none⟩) (Nat.le_of_lt HK2.out) _).setCell (p := ⟨k2, 1, none⟩) (Nat.le_of_lt HK2.out) _).setCell (p := ⟨k2, 2, none⟩) (Nat.le_of_lt HK2.out) _
  refine bodyPost_ret (v := .tuple #[.agg #[.string ⟨#[]⟩, .string ⟨#[]⟩, .string ⟨#[]⟩], .bool false]) (by simp [results, Tryz.results15, go_sem, Y.1, Y.2.1, Y.2.2]) rfl ⟨?_, BB⟩
  rw [HE.out]; rfl
 | true =>
  rw [hr, Bool.not_true] at e1 e2
  obtain ⟨f1, f2, f3⟩ := ru_facts hr
  have HF1 := Lib.hid f1; have HF2 := Lib.hid f2; have HF3 := Lib.hid f3; have HR := Lib.hid hr
  clear f1 f2 f3 hr
  cases hl : (r.head.toList == [108, 105, 110, 107]) with
  | true =>
   have HE : Hid (placeZ r = (zPl, false)) := by show _ = _; rw [placeZ, if_neg (by rw [show eqS r.head linkS = true by rw [eqS_link]; exact hl]; simp)]
   obtain ⟨v0, v1, v2⟩ := X2.out.cells
   have z0 := frozen_of_row w3 k2 0 _ _ X2.out; have z1 := frozen_of_row w3 k2 1 _ _ X2.out; have z2 := frozen_of_row w3 k2 2 _ _ X2.out
   go_wp2_with fail
   have Y := (X2.out.set (.string ⟨#[]⟩) (.string ⟨#[]⟩) (.string ⟨#[]⟩)).cells
   have BB : Below w.heap.size w (((w3.setCell ⟨k2, 0, none⟩ (.string ⟨#[]⟩)).setCell ⟨k2, 1, none⟩ (.string ⟨#[]⟩)).setCell ⟨k2, 2, none⟩ (.string ⟨#[]⟩)) := ((B2.out.setCell (p := ⟨k2, 0, none⟩) (Nat.le_of_lt HK2.out) _).setCell (p := ⟨k2, 1, none⟩) (Nat.le_of_lt HK2.out) _).setCell (p := ⟨k2, 2, none⟩) (Nat.le_of_lt HK2.out) _
   refine bodyPost_ret (v := .tuple #[.agg #[.string ⟨#[]⟩, .string ⟨#[]⟩, .string ⟨#[]⟩], .bool false]) (by simp [results, Tryz.results15, go_sem, Y.1, Y.2.1, Y.2.2]) rfl ⟨?_, BB⟩
   rw [HE.out]; rfl
  | false =>
   have HL : Hid (eqS r.head linkS = false) := by show _ = _; rw [eqS_link]; exact hl
   go_wp2_with fail
   refine (atVars_any r S w3 _ _ _ _ _ _ (fun k hk => Nat.lt_of_lt_of_le (HS.out k hk) B2.out.size) (RepRu.on (fun _ h => h) (fun j hj => B2.out.block j (HS.out j hj)) HX.out) HF2.out HF3.out).mono ?_
   rintro e w4 ⟨rfl, hb⟩
   replace X1 := Lib.hid (X1.out.on hb); replace X2 := Lib.hid (X2.out.on hb); replace B2 := Lib.hid (Below.step B2.out hb)
   clear hb p0 p1 p2 p3 p4 p5
   obtain ⟨p0, p1, p2, p3, p4, p5⟩ := X1.out.cells
   cases hv : (atVarsL r.body && kind0 r.args == 1) with
   | false =>
    have HE : Hid (placeZ r = (zPl, false)) := by
     show _ = _
     rw [placeZ, if_neg (fun h => ?_)]
     rw [h.2.2.1, h.2.2.2] at hv; cases hv
    clear hv
    obtain ⟨v0, v1, v2⟩ := X2.out.cells
    have z0 := frozen_of_row w4 k2 0 _ _ X2.out; have z1 := frozen_of_row w4 k2 1 _ _ X2.out; have z2 := frozen_of_row w4 k2 2 _ _ X2.out
    go_wp2_with fail
    have Y := (X2.out.set (.string ⟨#[]⟩) (.string ⟨#[]⟩) (.string ⟨#[]⟩)).cells
    have BB : Below w.heap.size w (((w4.setCell ⟨k2, 0, none⟩ (.string ⟨#[]⟩)).setCell ⟨k2, 1, none⟩ (.string ⟨#[]⟩)).setCell ⟨k2, 2, none⟩ (.string ⟨#[]⟩)) := ((B2.out.setCell (p := ⟨k2, 0, none⟩) (Nat.le_of_lt HK2.out) _).setCell (p := ⟨k2, 1, none⟩) (Nat.le_of_lt HK2.out) _).setCell (p := ⟨k2, 2, none⟩) (Nat.le_of_lt HK2.out) _
    refine bodyPost_ret (v := .tuple #[.agg #[.string ⟨#[]⟩, .string ⟨#[]⟩, .string ⟨#[]⟩], .bool false]) (by simp [results, Tryz.results15, go_sem, Y.1, Y.2.1, Y.2.2]) rfl ⟨?_, BB⟩
    rw [HE.out]; rfl
   | true =>
    have HP : Hid (placeZ r = if (bodyPlaceZ r).2 = true ∧ aggFits r (bodyPlaceZ r).1 = true then ((bodyPlaceZ r).1, true) else (zPl, false)) := by
     show _ = _
     rw [Bool.and_eq_true, beq_iff_eq] at hv
     rw [placeZ, if_pos ⟨HR.out, HL.out, hv.1, hv.2⟩]
    clear hv
    go_wp2_with fail
    refine (bodyPlace_any r S w4 _ _ _ _ _ _ (fun k hk => Nat.lt_of_lt_of_le (HS.out k hk) B2.out.size) (RepRu.on (fun _ h => h) (fun j hj => B2.out.block j (HS.out j hj)) HX.out) (Nat.le_trans HF1.out (by omega)) HF2.out HF3.out (lis_sizes HX.out.2.2.2.2.2.2.2.2.2)).mono ?_
    rintro e w5 ⟨rfl, hb⟩
    replace X1 := Lib.hid (X1.out.on hb); replace X2 := Lib.hid (X2.out.on hb); replace B2 := Lib.hid (Below.step B2.out hb)
    clear hb p0 p1 p2 p3 p4 p5
    generalize bodyPlaceZ r = bp at *
    obtain ⟨⟨bf, bt, bh⟩, bok⟩ := bp
    rw [plRet]
    go_upto_region 4 with fail
    have m4 := alloc_new' w5 (.cells #[.string bf, .string bt, .string bh] 37)
    have d4 := below_alloc w5 (.cells #[.string bf, .string bt, .string bh] 37)
    generalize w5.alloc (.cells #[.string bf, .string bt, .string bh] 37) = w6 at *
    obtain ⟨k4, hk4⟩ : ∃ k, w5.heap.size = k := ⟨_, rfl⟩
    rw [hk4] at m4 ⊢
    have X4 : Hid (BoxPl w6 k4 (.string bf) (.string bt) (.string bh)) := m4
    replace X1 := Lib.hid (X1.out.on d4); replace X2 := Lib.hid (X2.out.on d4); replace B2 := Lib.hid (Below.step B2.out d4)
    clear m4 d4 hk4
    obtain ⟨p0, p1, p2, p3, p4, p5⟩ := X1.out.cells
    obtain ⟨q0, q1, q2⟩ := X4.out.cells
    cases bok with
    | false =>
     have HE : Hid (placeZ r = (zPl, false)) := by show _ = _; rw [HP.out, if_neg (by simp)]
     obtain ⟨v0, v1, v2⟩ := X2.out.cells
     have z0 := frozen_of_row w6 k2 0 _ _ X2.out; have z1 := frozen_of_row w6 k2 1 _ _ X2.out; have z2 := frozen_of_row w6 k2 2 _ _ X2.out
     go_wp2_with fail
     have Y := (X2.out.set (.string ⟨#[]⟩) (.string ⟨#[]⟩) (.string ⟨#[]⟩)).cells
     have BB : Below w.heap.size w (((w6.setCell ⟨k2, 0, none⟩ (.string ⟨#[]⟩)).setCell ⟨k2, 1, none⟩ (.string ⟨#[]⟩)).setCell ⟨k2, 2, none⟩ (.string ⟨#[]⟩)) := ((B2.out.setCell (p := ⟨k2, 0, none⟩) (Nat.le_of_lt HK2.out) _).setCell (p := ⟨k2, 1, none⟩) (Nat.le_of_lt HK2.out) _).setCell (p := ⟨k2, 2, none⟩) (Nat.le_of_lt HK2.out) _
     refine bodyPost_ret (v := .tuple #[.agg #[.string ⟨#[]⟩, .string ⟨#[]⟩, .string ⟨#[]⟩], .bool false]) (by simp [results, Tryz.results15, go_sem, Y.1, Y.2.1, Y.2.2]) rfl ⟨?_, BB⟩
     rw [HE.out]; rfl
    | true =>
     have HP2 : Hid (placeZ r = if aggFits r ⟨bf, bt, bh⟩ = true then (⟨bf, bt, bh⟩, true) else (zPl, false)) := by show _ = _; rw [HP.out]; simp
     cases ha : r.agg.toList.isEmpty with
     | true =>
      have ha' : (r.agg.toList == []) = true := by revert ha; cases r.agg.toList <;> simp
      have ha2 : (r.agg.toList != []) = false := by rw [bne, ha']; rfl
      have HE : Hid (placeZ r = (⟨bf, bt, bh⟩, true)) := by show _ = _; rw [HP2.out, aggFits, ha]; rfl
      obtain ⟨v0, v1, v2⟩ := X2.out.cells
      have z0 := frozen_of_row w6 k2 0 _ _ X2.out; have z1 := frozen_of_row w6 k2 1 _ _ X2.out; have z2 := frozen_of_row w6 k2 2 _ _ X2.out
      go_wp2_with fail
      have Y := (X2.out.set (.string bf) (.string bt) (.string bh)).cells
      have BB : Below w.heap.size w (((w6.setCell ⟨k2, 0, none⟩ (.string bf)).setCell ⟨k2, 1, none⟩ (.string bt)).setCell ⟨k2, 2, none⟩ (.string bh)) := ((B2.out.setCell (p := ⟨k2, 0, none⟩) (Nat.le_of_lt HK2.out) _).setCell (p := ⟨k2, 1, none⟩) (Nat.le_of_lt HK2.out) _).setCell (p := ⟨k2, 2, none⟩) (Nat.le_of_lt HK2.out) _
      refine bodyPost_ret (v := .tuple #[.agg #[.string bf, .string bt, .string bh], .bool true]) (by simp [results, Tryz.results15, go_sem, Y.1, Y.2.1, Y.2.2]) rfl ⟨?_, BB⟩
      rw [HE.out]; rfl
     | false =>
      have ha' : (r.agg.toList == []) = false := by revert ha; cases r.agg.toList <;> simp
      have ha2 : (r.agg.toList != []) = true := by rw [bne, ha']; rfl
      cases ht : bt.toList.isEmpty with
      | false =>
       have ht' : (bt.toList == []) = false := by revert ht; cases bt.toList <;> simp
       have ht2 : (bt.toList != []) = true := by rw [bne, ht']; rfl
       have HE : Hid (placeZ r = (zPl, false)) := by show _ = _; rw [HP2.out, aggFits, ha, ht]; rfl
       obtain ⟨v0, v1, v2⟩ := X2.out.cells
       have z0 := frozen_of_row w6 k2 0 _ _ X2.out; have z1 := frozen_of_row w6 k2 1 _ _ X2.out; have z2 := frozen_of_row w6 k2 2 _ _ X2.out
       go_wp2_with fail
       have Y := (X2.out.set (.string ⟨#[]⟩) (.string ⟨#[]⟩) (.string ⟨#[]⟩)).cells
       have BB : Below w.heap.size w (((w6.setCell ⟨k2, 0, none⟩ (.string ⟨#[]⟩)).setCell ⟨k2, 1, none⟩ (.string ⟨#[]⟩)).setCell ⟨k2, 2, none⟩ (.string ⟨#[]⟩)) := ((B2.out.setCell (p := ⟨k2, 0, none⟩) (Nat.le_of_lt HK2.out) _).setCell (p := ⟨k2, 1, none⟩) (Nat.le_of_lt HK2.out) _).setCell (p := ⟨k2, 2, none⟩) (Nat.le_of_lt HK2.out) _
       refine bodyPost_ret (v := .tuple #[.agg #[.string ⟨#[]⟩, .string ⟨#[]⟩, .string ⟨#[]⟩], .bool false]) (by simp [results, Tryz.results15, go_sem, Y.1, Y.2.1, Y.2.2]) rfl ⟨?_, BB⟩
       rw [HE.out]; rfl
      | true =>
       have ht' : (bt.toList == []) = true := by revert ht; cases bt.toList <;> simp
       have ht2 : (bt.toList != []) = false := by rw [bne, ht']; rfl
       cases hh : (bh.toList == bf.toList) with
       | true =>
        have hh2 : (bh.toList != bf.toList) = false := by rw [bne, hh]; rfl
        have HE : Hid (placeZ r = (⟨bf, bt, bh⟩, true)) := by show _ = _; rw [HP2.out, aggFits, ha, ht, show eqS bh bf = true from hh]; rfl
        obtain ⟨v0, v1, v2⟩ := X2.out.cells
        have z0 := frozen_of_row w6 k2 0 _ _ X2.out; have z1 := frozen_of_row w6 k2 1 _ _ X2.out; have z2 := frozen_of_row w6 k2 2 _ _ X2.out
        go_wp2_with fail
        have Y := (X2.out.set (.string bf) (.string bt) (.string bh)).cells
        have BB : Below w.heap.size w (((w6.setCell ⟨k2, 0, none⟩ (.string bf)).setCell ⟨k2, 1, none⟩ (.string bt)).setCell ⟨k2, 2, none⟩ (.string bh)) := ((B2.out.setCell (p := ⟨k2, 0, none⟩) (Nat.le_of_lt HK2.out) _).setCell (p := ⟨k2, 1, none⟩) (Nat.le_of_lt HK2.out) _).setCell (p := ⟨k2, 2, none⟩) (Nat.le_of_lt HK2.out) _
        refine bodyPost_ret (v := .tuple #[.agg #[.string bf, .string bt, .string bh], .bool true]) (by simp [results, Tryz.results15, go_sem, Y.1, Y.2.1, Y.2.2]) rfl ⟨?_, BB⟩
        rw [HE.out]; rfl
       | false =>
        have hh2 : (bh.toList != bf.toList) = true := by rw [bne, hh]; rfl
        have HE : Hid (placeZ r = (zPl, false)) := by show _ = _; rw [HP2.out, aggFits, ha, ht, show eqS bh bf = false from hh]; rfl
        obtain ⟨v0, v1, v2⟩ := X2.out.cells
        have z0 := frozen_of_row w6 k2 0 _ _ X2.out; have z1 := frozen_of_row w6 k2 1 _ _ X2.out; have z2 := frozen_of_row w6 k2 2 _ _ X2.out
        go_wp2_with fail
        have Y := (X2.out.set (.string ⟨#[]⟩) (.string ⟨#[]⟩) (.string ⟨#[]⟩)).cells
        have BB : Below w.heap.size w (((w6.setCell ⟨k2, 0, none⟩ (.string ⟨#[]⟩)).setCell ⟨k2, 1, none⟩ (.string ⟨#[]⟩)).setCell ⟨k2, 2, none⟩ (.string ⟨#[]⟩)) := ((B2.out.setCell (p := ⟨k2, 0, none⟩) (Nat.le_of_lt HK2.out) _).setCell (p := ⟨k2, 1, none⟩) (Nat.le_of_lt HK2.out) _).setCell (p := ⟨k2, 2, none⟩) (Nat.le_of_lt HK2.out) _
        refine bodyPost_ret (v := .tuple #[.agg #[.string ⟨#[]⟩, .string ⟨#[]⟩, .string ⟨#[]⟩], .bool false]) (by simp [results, Tryz.results15, go_sem, Y.1, Y.2.1, Y.2.2]) rfl ⟨?_, BB⟩
        rw [HE.out]; rfl
end Go.Proofs.YtjohcnhiblfbnaaGreatDoor
