/-
  ValueLists of a list of more than fifteen elements: the law returns true.
-/
import Derived.Test.YtgpgjaenbhbbgaaDoorValsKit
namespace Go.Proofs.YtgpgjaenbhbbgaaDoor.valueLists
open Go.ChangeShapes Go.WideShapes Go.ChangeAt Go.RowKit

set_option maxRecDepth 100000 in
set_option maxHeartbeats 16000000 in
theorem walk_long (l : List V) (a b : V) (more : List V) (W : World) (v c0 c1 c2 c3 d0 d1 d2 d3 u : Value) (htab : TabOk W) (hl : RepL W.heap.size W l v) (hln : l.length * 56 ≤ 140737488351232) (ha : RepV W.heap.size W a c0 c1 c2 c3) (hb : RepV W.heap.size W b d0 d1 d2 d3) (hm : RepL W.heap.size W more u) (hmn : more.length * 56 ≤ 140737488351232) (h15 : 15 < l.length) :
    Calls Tryd.prog 3 #[v, .agg #[c0, c1, c2, c3], .agg #[d0, d1, d2, d3], u] W fun e W' => e = .returned (.bool true) ∧ Below W.heap.size W W' := by
  have HL := Lib.hid hl; have HA := Lib.hid ha; have HB := Lib.hid hb; have HM := Lib.hid hm
  have HT := Lib.hid htab
  have hg := tab_lt htab
  obtain ⟨la, lc, rfl⟩ : ∃ la lc, v = .slice la l.length lc := by
    obtain ⟨la, lb, lo, lc, e, -⟩ := hl
    exact ⟨la, lc, e⟩
  obtain ⟨ma, mc, rfl⟩ : ∃ la lc, u = .slice la more.length lc := by
    obtain ⟨la, lb, lo, lc, e, -⟩ := hm
    exact ⟨la, lc, e⟩
  obtain ⟨fa, fc, rfl, rfl, rfl, rfl⟩ := ha.form
  obtain ⟨ga, gc, rfl, rfl, rfl, rfl⟩ := hb.form
  clear hl ha hb hm htab
  go_enter Tryd.func3, Tryd.ntmps3
  go_wp2_with fail
  have x1 := boxed_new W (.int .i64 a.kind) (.int .i64 a.num) (.string a.text) (.slice fa a.list.length fc)
  have b1 := stands_alloc W (.cells #[.int .i64 a.kind, .int .i64 a.num, .string a.text, .slice fa a.list.length fc] 24)
  have s1 := World.size_alloc W (.cells #[.int .i64 a.kind, .int .i64 a.num, .string a.text, .slice fa a.list.length fc] 24)
  generalize W.alloc (.cells #[.int .i64 a.kind, .int .i64 a.num, .string a.text, .slice fa a.list.length fc] 24) = W1 at *
  have y2 := boxed_new W1 (.int .i64 b.kind) (.int .i64 b.num) (.string b.text) (.slice ga b.list.length gc)
  have b2 := stands_alloc W1 (.cells #[.int .i64 b.kind, .int .i64 b.num, .string b.text, .slice ga b.list.length gc] 24)
  generalize W1.alloc (.cells #[.int .i64 b.kind, .int .i64 b.num, .string b.text, .slice ga b.list.length gc] 24) = W2 at *
  rw [s1] at y2
  have X2 := x1.on b2
  have B2 := Below.step b1 b2
  clear x1 b1 b2 s1
  refine (awake_any _ (Nat.lt_of_lt_of_le hg B2.size) (HT.out.below hg B2)).mono ?_
  rintro e w4 ⟨rfl, b4⟩
  have X4 := Lib.hid (X2.on b4); have Y4 := Lib.hid (y2.on b4); have B4 := Lib.hid (Below.step B2 b4)
  have hs4 : W.heap.size + 2 ≤ w4.heap.size := by have := Y4.out.lt; omega
  clear X2 y2 B2 b4
  go_wp2_with fail
  obtain ⟨n, hn⟩ : ∃ n, n = min 15 l.length := ⟨_, rfl⟩
  go_loopw [10, 11] (fun o i wr => ∃ k : Nat, k ≤ n ∧ i = .int .i64 k ∧ Mine wr w4.heap.size (cTo l k) o ∧ Below w4.heap.size w4 wr) (fun _ i _ => n - (intOf i).toNat)
  case atStart => exact ⟨0, Nat.zero_le _, rfl, OwnL.nil _ _ _, Below.refl _ _⟩
  case round =>
    obtain ⟨k, hk, rfl, hmine, hbel⟩ := hrel
    have HMI := Lib.hid hmine
    have HBEL := Lib.hid hbel
    have hsr := hbel.size
    by_cases hlt : k < n
    · have hkl : k < l.length := by omega
      have hkm : k < 15 := by omega
      obtain ⟨-, -, b', o, fa', fc', rfl, hSb, g0, g1, g2, g3, g⟩ := RepLG.at (HL.out.on (w' := wr) (fun _ h => h) (fun j hj => (hbel.block j (by omega)).trans (B4.out.block j hj))) k hkl
      have HN : Hid (cTo l (k + 1) = cTo l k ++ [fitV 3 l[k]]) := by
        show _ = _
        rw [cTo, List.take_succ_eq_append_getElem hkl, List.map_append]; rfl
      have HLL : Hid ((cTo l k).length ≤ 1000) := by show _ ≤ _; rw [cTo_length]; omega
      generalize l[k] = z at *
      have HG := Lib.hid g
      obtain ⟨qa, qc, rfl⟩ := hmine.form
      generalize cTo l k = L at *
      generalize hLn : L.length = ln at *
      have HLN : Hid (L.length ≤ 1000) := by show _ ≤ _; rw [hLn]; exact HLL.out
      clear hLn HLL
      clear g hmine hbel hn
      go_wp2_with fail
      refine (fit_any 3 (by omega) z W.heap.size _ _ _ _ _ (by omega) HG.out (fun h => by omega)).mono ?_
      rintro e w5 ⟨e0, e1, e2, e3, rfl, hr5, hb5⟩
      obtain ⟨pa, pc, rfl, rfl, rfl, rfl⟩ := hr5.form
      generalize fitV 3 z = y at *
      obtain ⟨va, vn, vc, w6, hrun, hm6, hb6, -⟩ := fit_append HMI.out (by omega) HLN.out hb5 hr5 22
      have HRUN := Lib.hid hrun; have HM6 := Lib.hid hm6; have HB6 := Lib.hid (Below.trans HBEL.out hb6)
      clear hrun hm6 hb6 hr5 hb5 g0 g1 g2 g3
      go_wp2_with (at_builtin; refine Lib.wpList_append_run _ rfl _ _ _ _ rfl _ _ rfl rfl _ _ HRUN.out ?_)
      go_roundw
      case rel => exact ⟨k + 1, by omega, by go_num, by rw [HN.out]; exact HM6.out, HB6.out⟩
      case measure => simp [intOf]; omega
    · have hke : k = n := by omega
      have HE : Hid (cTo l k = cTo l 15) := by
        show _ = _
        rw [hke, hn, cTo, cTo]
        congr 1
        by_cases h : 15 ≤ l.length
        · rw [Nat.min_eq_left h]
        · rw [Nat.min_eq_right (by omega), List.take_length, List.take_of_length_le (by omega)]
      have HLL : Hid ((cTo l k).length ≤ 15) := by show _ ≤ _; rw [cTo_length]; omega
      rw [HE.out] at HMI hmine HLL
      generalize cTo l 15 = L at *
      obtain ⟨qa, qc, rfl⟩ := hmine.form
      have XA := Lib.hid (X4.out.on hbel); have YB := Lib.hid (Y4.out.on hbel)
      have BW := Lib.hid (Below.step B4.out hbel)
      have hc : k < l.length := by omega
      have hc' : 15 ≤ k := by omega
      have HLN := HLL.out
      clear hke hn hlt HE hmine hbel X4 Y4
      go_wp2_with fail
      have hL1000 : L.length ≤ 1000 := by omega
      have HM1 : Hid ((1 + more.length) * 56 ≤ 140737488355328) := by show _ ≤ _; omega
      have HJO : Hid ((L.length + (b :: more).length) * 56 ≤ 140737488355328) := by show _ ≤ _; rw [List.length_cons]; omega
      have HREP := Lib.hid (OwnL.rep HMI.out (S' := fun b => b < wr.heap.size) (fun k hk => hk.2.1) (fun g _ h2 => h2) (by omega))
      have HYA := Lib.hid ((RepV.below (fun j hj => BW.out.block j hj) _ HA.out).up BW.out.size _)
      obtain ⟨X, hXE⟩ : ∃ X, X = L ++ [a] := ⟨_, rfl⟩
      have HXE := Lib.hid hXE
      clear hXE
      clear hln hmn hc hk hsr hs4 hg HLN h15 hc'
      go_cut [12] (fun s12 wx => HoldsL X wr s12 wx)
      case first =>
        go_region_held3 (fun w' => w'.cell? ⟨W.heap.size, 0, none⟩ = some (.int .i64 a.kind) ∧ w'.cell? ⟨W.heap.size, 1, none⟩ = some (.int .i64 a.num) ∧ w'.cell? ⟨W.heap.size, 2, none⟩ = some (.string a.text) ∧ w'.cell? ⟨W.heap.size, 3, none⟩ = some (.slice fa a.list.length fc))
          (first | exact boxCells XA.out HK.out | exact boxCells XA.out (belowAlloc HK.out _) | exact boxCells XA.out (belowAlloc (belowAlloc HK.out _) _) | exact boxCells XA.out (stored4 HK.out _ (by omega) _ _ _ _) | exact boxCells XA.out (d0 _) | exact boxCells XA.out (d1 _ _) | exact boxCells XA.out (d2 _ _ _))
          (first
            | (refine step_copy rfl _ _ rfl rfl rfl HREP.out ?_ hL1000 ?_; (first | with_reducible exact d0 _ | with_reducible exact d1 _ _ | with_reducible exact d2 _ _ _); intro va vc w' ho hb; (first | with_reducible (have HBX := Lib.hid (Boxed.on (box_2 _ _) hb)) | with_reducible (have HBX := Lib.hid (Boxed.on (box_u _ _) hb)) | with_reducible (have HBX := Lib.hid (Boxed.on (box_1 _) hb)) | skip); (first | with_reducible (have HLIT := Lib.hid (keep_lit (o := (.cells #[.int .i64 a.kind, .int .i64 a.num, .string a.text, .slice fa a.list.length fc] 24)) (lit_2 _ _ _) hb)) | with_reducible (have HLIT := Lib.hid (keep_lit (o := (.cells #[.int .i64 a.kind, .int .i64 a.num, .string a.text, .slice fa a.list.length fc] 24)) (lit_u _ _ _) hb)) | with_reducible (have HLIT := Lib.hid (keep_lit (o := (.cells #[.int .i64 a.kind, .int .i64 a.num, .string a.text, .slice fa a.list.length fc] 24)) (lit_1 _ _) hb)) | skip); have HK : Hid (Below wr.heap.size wr w') := Lib.hid (Below.step (by first | with_reducible exact d0 _ | with_reducible exact d1 _ _ | with_reducible exact d2 _ _ _) hb); have HO := Lib.hid ho; have hsz := hb.size; have hsk := HK.out.size; (try dsimp only [World.drew] at hsz); (try simp only [World.size_alloc] at hsz); clear ho hb)
            | (refine step_more rfl _ _ rfl rfl rfl (Copy.on HO.out ?_ HK.out.size) (Below.step HK.out ?_) ?_ ?_ HYA.out hL1000 HXE.out ?_; (first | with_reducible exact Below.refl _ _ | with_reducible exact b1 _ _ | with_reducible exact stands_two _ _ _); (first | with_reducible exact Below.refl _ _ | with_reducible exact b1 _ _ | with_reducible exact stands_two _ _ _); (first | with_reducible exact HLIT.out | with_reducible exact keep_lit HLIT.out (b1 _ _) | with_reducible exact keep_lit HLIT.out (stands_two _ _ _) | with_reducible exact new_lit _ _ | with_reducible exact alloc_under _ _ _ | with_reducible exact alloc_two _ _ _); (focus (first | (simp; done) | (simp; omega) | omega)); intro va vc w' hrep hb0 hst hsz; (first | replace HBX := Lib.hid (bx_keep (HBX.out.on (by first | with_reducible exact Below.refl _ _ | with_reducible exact b1 _ _ | with_reducible exact stands_two _ _ _)) (hst _ (HBX.out.on (by first | with_reducible exact Below.refl _ _ | with_reducible exact b1 _ _ | with_reducible exact stands_two _ _ _)).lt (by first | (simp; done) | (simp; omega) | omega))) | with_reducible (have HBX := Lib.hid (bx_keep (box_two _ _) (hst _ (by first | (simp; done) | (simp; omega) | omega) (by first | (simp; done) | (simp; omega) | omega)))) | with_reducible (have HBX := Lib.hid (bx_keep (box_und _ _) (hst _ (by first | (simp; done) | (simp; omega) | omega) (by first | (simp; done) | (simp; omega) | omega)))) | with_reducible (have HBX := Lib.hid (bx_keep (box_new _) (hst _ (by first | (simp; done) | (simp; omega) | omega) (by first | (simp; done) | (simp; omega) | omega)))) | skip); replace HK := Lib.hid hb0; have HR2 := Lib.hid hrep; have hsk := HK.out.size; (try dsimp only [World.drew] at hsz); (try simp only [World.size_alloc] at hsz); clear hrep hb0 hst)
            | (go_at_call 8; refine (list_any X _ _ _ (Nat.le_refl _) (rep_up HR2.out (by first | with_reducible exact Below.refl _ _ | with_reducible exact b1 _ _ | with_reducible exact stands_two _ _ _))).mono ?_; rintro e w'' ⟨r, rfl, hrl, hb⟩; obtain ⟨ra, rb, ro, rc, hr1, -⟩ := id hrl; subst hr1; (first | replace HBX := Lib.hid ((HBX.out.on (by first | with_reducible exact Below.refl _ _ | with_reducible exact b1 _ _ | with_reducible exact stands_two _ _ _)).on hb) | with_reducible (have HBX := Lib.hid (Boxed.on (box_new _) hb)) | skip); replace HK := Lib.hid (Below.step (Below.step HK.out (by first | with_reducible exact Below.refl _ _ | with_reducible exact b1 _ _ | with_reducible exact stands_two _ _ _)) hb); have HR3 := Lib.hid hrl; (try simp only [World.size_alloc] at HR3); have hsz := hb.size; have hsk := HK.out.size; (try dsimp only [World.drew] at hsz); (try simp only [World.size_alloc] at hsz); clear hrl hb; (try (have X9 := HBX.out; (try dsimp only [World.drew] at X9); (try simp only [World.size_alloc] at X9); replace HBX := Lib.hid X9; obtain ⟨y0, y1, y2, y3⟩ := X9.cells; have z0 := frozen_of_row _ _ 0 _ _ X9; have z1 := frozen_of_row _ _ 1 _ _ X9; have z2 := frozen_of_row _ _ 2 _ _ X9; have z3 := frozen_of_row _ _ 3 _ _ X9; clear X9))))
        all_goals
          go_wp2_with fail
          go_meet
          first
            | (with_reducible refine holdsL_set HBX.out HR3.out HK.out ?_; (try simp only [World.size_alloc]); refine ⟨?_, ?_⟩ <;> omega)
            | (with_reducible exact holdsL_new HR3.out HK.out)
      case rest =>
        obtain ⟨bx, xa, xc, rfl, xbox, xrep, xb⟩ := hcut
        have HXB := Lib.hid xbox; have HXR := Lib.hid xrep; have HXW := Lib.hid xb
        clear xbox xrep xb
        have XA2 := Lib.hid (XA.out.on HXW.out); have YB2 := Lib.hid (YB.out.on HXW.out)
        have BW2 := Lib.hid (Below.step BW.out HXW.out)
        have HREP2 := Lib.hid (rep_up HREP.out HXW.out)
        clear HREP HYA XA YB HMI HBEL
        generalize wc = wr2 at *
        go_wp2_with fail
        have HREP := HREP2
        have HYB := Lib.hid ((RepV.below (fun j hj => BW2.out.block j hj) _ HB.out).up BW2.out.size _)
        have HMW := Lib.hid ((RepL.below (fun j hj => BW2.out.block j hj) HM.out).up BW2.out.size)
        obtain ⟨Y, hYE⟩ : ∃ Y, Y = L ++ (b :: more) := ⟨_, rfl⟩
        have HYE := Lib.hid hYE
        clear hYE
        go_cut [13] (fun s13 wx => HoldsL Y wr2 s13 wx)
        case first =>
          go_region_held3 (fun w' => w'.cell? ⟨W.heap.size + 1, 0, none⟩ = some (.int .i64 b.kind) ∧ w'.cell? ⟨W.heap.size + 1, 1, none⟩ = some (.int .i64 b.num) ∧ w'.cell? ⟨W.heap.size + 1, 2, none⟩ = some (.string b.text) ∧ w'.cell? ⟨W.heap.size + 1, 3, none⟩ = some (.slice ga b.list.length gc))
            (first | exact boxCells YB2.out HK.out | exact boxCells YB2.out (belowAlloc HK.out _) | exact boxCells YB2.out (belowAlloc (belowAlloc HK.out _) _) | exact boxCells YB2.out (stored4 HK.out _ (by omega) _ _ _ _) | exact boxCells YB2.out (d0 _) | exact boxCells YB2.out (d1 _ _) | exact boxCells YB2.out (d2 _ _ _))
            (first
              | (refine step_copy rfl _ _ rfl rfl rfl HREP.out ?_ hL1000 ?_; (first | with_reducible exact d0 _ | with_reducible exact d1 _ _ | with_reducible exact d2 _ _ _); intro va vc w' ho hb; (first | with_reducible (have HBX := Lib.hid (Boxed.on (box_2 _ _) hb)) | with_reducible (have HBX := Lib.hid (Boxed.on (box_u _ _) hb)) | with_reducible (have HBX := Lib.hid (Boxed.on (box_1 _) hb)) | skip); (first | with_reducible (have HLIT := Lib.hid (keep_lit (o := (.cells #[.int .i64 b.kind, .int .i64 b.num, .string b.text, .slice ga b.list.length gc] 24)) (lit_2 _ _ _) hb)) | with_reducible (have HLIT := Lib.hid (keep_lit (o := (.cells #[.int .i64 b.kind, .int .i64 b.num, .string b.text, .slice ga b.list.length gc] 24)) (lit_u _ _ _) hb)) | with_reducible (have HLIT := Lib.hid (keep_lit (o := (.cells #[.int .i64 b.kind, .int .i64 b.num, .string b.text, .slice ga b.list.length gc] 24)) (lit_1 _ _) hb)) | skip); have HK : Hid (Below wr2.heap.size wr2 w') := Lib.hid (Below.step (by first | with_reducible exact d0 _ | with_reducible exact d1 _ _ | with_reducible exact d2 _ _ _) hb); have HO := Lib.hid ho; have hsz := hb.size; have hsk := HK.out.size; (try dsimp only [World.drew] at hsz); (try simp only [World.size_alloc] at hsz); clear ho hb)
              | (refine step_onto rfl _ _ rfl rfl rfl (Copy.on HO.out ?_ HK.out.size) (Below.step HK.out ?_) ?_ ?_ ?_ HYB.out HMW.out HM1.out ?_; (first | with_reducible exact Below.refl _ _ | with_reducible exact b1 _ _ | with_reducible exact stands_two _ _ _); (first | with_reducible exact Below.refl _ _ | with_reducible exact b1 _ _ | with_reducible exact stands_two _ _ _); (first | with_reducible exact HLIT.out | with_reducible exact keep_lit HLIT.out (b1 _ _) | with_reducible exact keep_lit HLIT.out (stands_two _ _ _) | with_reducible exact new_lit _ _ | with_reducible exact alloc_under _ _ _ | with_reducible exact alloc_two _ _ _); (focus (first | (simp; done) | (simp; omega) | omega)); (focus (first | (simp; done) | (simp; omega) | omega)); intro va vc w' hrep ho hst hb0 hsz; (first | replace HBX := Lib.hid (bx_keep (HBX.out.on (by first | with_reducible exact Below.refl _ _ | with_reducible exact b1 _ _ | with_reducible exact stands_two _ _ _)) (hst _ (HBX.out.on (by first | with_reducible exact Below.refl _ _ | with_reducible exact b1 _ _ | with_reducible exact stands_two _ _ _)).lt (by first | (simp; done) | (simp; omega) | omega))) | with_reducible (have HBX := Lib.hid (bx_keep (box_two _ _) (hst _ (by first | (simp; done) | (simp; omega) | omega) (by first | (simp; done) | (simp; omega) | omega)))) | with_reducible (have HBX := Lib.hid (bx_keep (box_und _ _) (hst _ (by first | (simp; done) | (simp; omega) | omega) (by first | (simp; done) | (simp; omega) | omega)))) | with_reducible (have HBX := Lib.hid (bx_keep (box_new _) (hst _ (by first | (simp; done) | (simp; omega) | omega) (by first | (simp; done) | (simp; omega) | omega)))) | skip); have HO := Lib.hid ho; have HR1 := Lib.hid hrep; replace HK := Lib.hid hb0; have hsk := HK.out.size; (try dsimp only [World.drew] at hsz); (try simp only [World.size_alloc] at hsz); clear hrep ho hst hb0)
              | (refine step_join rfl _ _ rfl rfl rfl (Copy.on HO.out ?_ HK.out.size) (Below.step HK.out ?_) (rep_apart HR1.out ?_) HJO.out HYE.out ?_; (first | with_reducible exact Below.refl _ _ | with_reducible exact b1 _ _ | with_reducible exact stands_two _ _ _); (first | with_reducible exact Below.refl _ _ | with_reducible exact b1 _ _ | with_reducible exact stands_two _ _ _); (first | with_reducible exact Below.refl _ _ | with_reducible exact b1 _ _ | with_reducible exact stands_two _ _ _); intro va vc w' hrep hb0 hst hsz; (first | replace HBX := Lib.hid (bx_keep (HBX.out.on (by first | with_reducible exact Below.refl _ _ | with_reducible exact b1 _ _ | with_reducible exact stands_two _ _ _)) (hst _ (HBX.out.on (by first | with_reducible exact Below.refl _ _ | with_reducible exact b1 _ _ | with_reducible exact stands_two _ _ _)).lt (by first | (simp; done) | (simp; omega) | omega))) | with_reducible (have HBX := Lib.hid (bx_keep (box_two _ _) (hst _ (by first | (simp; done) | (simp; omega) | omega) (by first | (simp; done) | (simp; omega) | omega)))) | with_reducible (have HBX := Lib.hid (bx_keep (box_und _ _) (hst _ (by first | (simp; done) | (simp; omega) | omega) (by first | (simp; done) | (simp; omega) | omega)))) | with_reducible (have HBX := Lib.hid (bx_keep (box_new _) (hst _ (by first | (simp; done) | (simp; omega) | omega) (by first | (simp; done) | (simp; omega) | omega)))) | skip); replace HK := Lib.hid hb0; have HR2 := Lib.hid hrep; have hsk := HK.out.size; (try dsimp only [World.drew] at hsz); (try simp only [World.size_alloc] at hsz); clear hrep hb0 hst)
              | (go_at_call 8; refine (list_any Y _ _ _ (Nat.le_refl _) (rep_up HR2.out (by first | with_reducible exact Below.refl _ _ | with_reducible exact b1 _ _ | with_reducible exact stands_two _ _ _))).mono ?_; rintro e w'' ⟨r, rfl, hrl, hb⟩; obtain ⟨ra, rb, ro, rc, hr1, -⟩ := id hrl; subst hr1; (first | replace HBX := Lib.hid ((HBX.out.on (by first | with_reducible exact Below.refl _ _ | with_reducible exact b1 _ _ | with_reducible exact stands_two _ _ _)).on hb) | with_reducible (have HBX := Lib.hid (Boxed.on (box_new _) hb)) | skip); replace HK := Lib.hid (Below.step (Below.step HK.out (by first | with_reducible exact Below.refl _ _ | with_reducible exact b1 _ _ | with_reducible exact stands_two _ _ _)) hb); have HR3 := Lib.hid hrl; (try simp only [World.size_alloc] at HR3); have hsz := hb.size; have hsk := HK.out.size; (try dsimp only [World.drew] at hsz); (try simp only [World.size_alloc] at hsz); clear hrl hb; (try (have X9 := HBX.out; (try dsimp only [World.drew] at X9); (try simp only [World.size_alloc] at X9); replace HBX := Lib.hid X9; obtain ⟨y0, y1, y2, y3⟩ := X9.cells; have z0 := frozen_of_row _ _ 0 _ _ X9; have z1 := frozen_of_row _ _ 1 _ _ X9; have z2 := frozen_of_row _ _ 2 _ _ X9; have z3 := frozen_of_row _ _ 3 _ _ X9; clear X9))))
          all_goals
            go_wp2_with fail
            go_meet
            first
              | (with_reducible refine holdsL_set HBX.out HR3.out HK.out ?_; (try simp only [World.size_alloc]); refine ⟨?_, ?_⟩ <;> omega)
              | (with_reducible exact holdsL_new HR3.out HK.out)
        case rest =>
          obtain ⟨byy, ya, yc, rfl, ybox, yrep, yb⟩ := hcut
          have HYB3 := Lib.hid ybox; have HYR3 := Lib.hid yrep
          have HXB3 := Lib.hid (HXB.out.on yb); have HXR3 := Lib.hid (rep_up HXR.out yb)
          have XA3 := Lib.hid (XA2.out.on yb); have YB3 := Lib.hid (YB2.out.on yb)
          have BW3 := Lib.hid (Below.step BW2.out yb)
          have HREP3 := Lib.hid (rep_up HREP.out yb)
          clear ybox yrep yb HXB HXR XA2 YB2 BW2 HREP HREP2 HYB HMW
          generalize wc = w3 at *
          go_wp2_with fail
          refine (list_any L w3.heap.size _ _ (Nat.le_refl _) HREP3.out).mono ?_
          rintro e w5 ⟨r, rfl, hrl, b5⟩
          obtain ⟨za, zb, zo, zc, hr1, -⟩ := id hrl
          subst hr1
          have b6 := Below.step b5 (stands_alloc w5 (.cells #[.int .i64 4, .int .i64 0, .string ⟨#[]⟩, .slice za L.length zc] 24))
          have z6 := boxed_new w5 (.int .i64 4) (.int .i64 0) (.string ⟨#[]⟩) (.slice za L.length zc)
          have HZR := Lib.hid (rep_up (hrl.on (S' := fun b => b < w5.heap.size) (fun b hb => hb.2) (fun _ _ => rfl)) (stands_alloc w5 (.cells #[.int .i64 4, .int .i64 0, .string ⟨#[]⟩, .slice za L.length zc] 24)))
          have HXB6 := Lib.hid (HXB3.out.on b6); have HXR6 := Lib.hid (rep_up HXR3.out b6)
          have HYB6 := Lib.hid (HYB3.out.on b6); have HYR6 := Lib.hid (rep_up HYR3.out b6)
          have BW6 := Lib.hid (Below.step BW3.out b6)
          have HZB6 := Lib.hid z6
          obtain ⟨p0, p1, p2, p3⟩ := (XA3.out.on b6).cells
          obtain ⟨q0, q1, q2, q3⟩ := (YB3.out.on b6).cells
          clear hrl b5 b6 z6 HXB3 HXR3 HYB3 HYR3 XA3 YB3 BW3 HREP3
          go_wp2_with fail
          generalize w5.alloc (.cells #[.int .i64 4, .int .i64 0, .string ⟨#[]⟩, .slice za L.length zc] 24) = w6 at *
          generalize w5.heap.size = bz at *
          refine (cmp_any a b W.heap.size _ _ _ _ _ _ _ _ _ BW6.out.size (RepV.below (fun j hj => BW6.out.block j hj) _ HA.out) (RepV.below (fun j hj => BW6.out.block j hj) _ HB.out)).mono ?_
          rintro e w7 ⟨rfl, b7⟩
          have HXB7 := Lib.hid (HXB6.out.on b7); have HXR7 := Lib.hid (rep_up HXR6.out b7)
          have HYB7 := Lib.hid (HYB6.out.on b7); have HYR7 := Lib.hid (rep_up HYR6.out b7)
          have HZB7 := Lib.hid (HZB6.out.on b7); have HZR7 := Lib.hid (rep_up HZR.out b7)
          have BW7 := Lib.hid (Below.step BW6.out b7)
          have HXY : Hid (cmpV (listV X) (listV Y) = told a b more.length) := by show _ = _; rw [HXE.out, HYE.out]; exact xy L a b more
          have HZX : Hid (cmpV (listV L) (listV X) = -1) := by show _ = _; rw [HXE.out]; exact zx L a
          have HYZ : Hid (cmpV (listV Y) (listV L) = 1) := by show _ = _; rw [HYE.out]; exact yz L b more
          have HTO : Hid (told a b more.length = if cmpV a b = 0 ∧ 0 < more.length then -1 else cmpV a b) := rfl
          clear b7 p0 p1 p2 p3 q0 q1 q2 q3 HXB6 HXR6 HYB6 HYR6 HZB6 HZR BW6
          obtain ⟨x0, x1, x2, x3⟩ := HXB7.out.cells
          obtain ⟨y0, y1, y2, y3⟩ := HYB7.out.cells
          generalize cmpV a b = cv at *
          have hcase3 : (cv = 0 ∧ 0 < more.length) ∨ (cv = 0 ∧ ¬ 0 < more.length) ∨ cv ≠ 0 := by omega
          rcases hcase3 with ⟨h0, hm0⟩ | ⟨h0, hm0⟩ | h0
          case' inl =>
            have HW : Hid (cmpV (listV X) (listV Y) = -1) := by show _ = _; rw [HXY.out, HTO.out, if_pos ⟨h0, hm0⟩]
            have t1 : (cv == 0) = true := by rw [h0]; rfl
            have t2 : decide (0 < (more.length : Int)) = true := by rw [decide_eq_true_eq]; omega
          case' inr.inl =>
            have HW : Hid (cmpV (listV X) (listV Y) = cv) := by show _ = _; rw [HXY.out, HTO.out, if_neg (fun h => hm0 h.2)]
            have t1 : (cv == 0) = true := by rw [h0]; rfl
            have t2 : decide (0 < (more.length : Int)) = false := by rw [decide_eq_false_iff_not]; omega
          case' inr.inr =>
            have HW : Hid (cmpV (listV X) (listV Y) = cv) := by show _ = _; rw [HXY.out, HTO.out, if_neg (fun h => h0 h.1)]
            have t1 : (cv == 0) = false := by rw [beq_eq_false_iff_ne]; exact h0
          all_goals
            clear h0
            go_wp2_with fail
            refine (cmp_any (listV X) (listV Y) w7.heap.size _ _ _ _ _ _ _ _ _ (Nat.le_refl _) (rep_list HXR7.out) (rep_list HYR7.out)).mono ?_
            rw [HW.out]
            rintro e w8 ⟨rfl, b8⟩
            clear x0 x1 x2 x3 y0 y1 y2 y3
            obtain ⟨x0, x1, x2, x3⟩ := (HXB7.out.on b8).cells
            obtain ⟨z0, z1, z2, z3⟩ := (HZB7.out.on b8).cells
            go_wp2_with fail
            refine (cmp_any (listV L) (listV X) w8.heap.size _ _ _ _ _ _ _ _ _ (Nat.le_refl _) (rep_list (rep_up HZR7.out b8)) (rep_list (rep_up HXR7.out b8))).mono ?_
            rw [HZX.out]
            rintro e w9 ⟨rfl, b9⟩
            have b79 := Below.step b8 b9
            clear x0 x1 x2 x3 z0 z1 z2 z3
            obtain ⟨y0, y1, y2, y3⟩ := (HYB7.out.on b79).cells
            obtain ⟨z0, z1, z2, z3⟩ := (HZB7.out.on b79).cells
            go_wp2_with fail
            refine (cmp_any (listV Y) (listV L) w9.heap.size _ _ _ _ _ _ _ _ _ (Nat.le_refl _) (rep_list (rep_up HYR7.out b79)) (rep_list (rep_up HZR7.out b79))).mono ?_
            rw [HYZ.out]
            rintro e w10 ⟨rfl, b10⟩
            have B10 := Lib.hid (Below.step (Below.step BW7.out b79) b10)
            clear b8 b9 b79 b10
            go_wp2_with fail
            go_ret
            exact ⟨rfl, B10.out⟩


end Go.Proofs.YtgpgjaenbhbbgaaDoor.valueLists
