/-
  The document's own Call of two arguments: append.
-/
import Derived.Test.YtaomlkglodeaoaaDoorW18
import Derived.Test.YtaomlkglodeaoaaDoorW21
import Derived.Deep.RegionLaw
namespace Go.Proofs.YtaomlkglodeaoaaDoor
open Go.RowKit

open Go.Proofs.YtaomlkglodeaoaaDoor.valueLists
theorem cell_stored {wz : World} {k bl j : Nat} {v : Value} (h : wz.cell? ⟨bl, j, none⟩ = some v) (hne : bl ≠ k) (c0 c1 c2 c3 : Value) : ((((wz.setCell ⟨k, 0, none⟩ c0).setCell ⟨k, 1, none⟩ c1).setCell ⟨k, 2, none⟩ c2).setCell ⟨k, 3, none⟩ c3).cell? ⟨bl, j, none⟩ = some v := by
  rw [World.cell?_of_block (w := wz) (by rw [Below.heap_setCell _ _ _ _ (by simpa using hne), Below.heap_setCell _ _ _ _ (by simpa using hne), Below.heap_setCell _ _ _ _ (by simpa using hne), Below.heap_setCell _ _ _ _ (by simpa using hne)])]
  exact h

set_option maxRecDepth 100000 in
set_option maxHeartbeats 1000000 in
theorem ref_append1 (s : ByteArray) (l : List V) (y : V) (B : Nat → Prop) (w : World) (a : Value) (hB : Under B w.heap.size) (ha : RepLG B w [listV l, y] a) (hs : fnOf s = 1) (h : All3 l) (hl : l.length ≤ 16) (hy : rightV 4 y = true) (hr : rightV 4 (listV (l ++ [y])) = true) :
    Calls Tryd.prog 6 #[.string s, a] w (RefPost B (callV (fnOf s) [listV l, y]) w) := by
  have e := fn_text (k := 1) (by decide) hs
  have h0 : (s.toList == [102, 95, 99, 111, 110, 115]) = false := by rw [e]; decide
  have h1 : (s.toList == [102, 95, 97, 112, 112, 101, 110, 100]) = true := by rw [e]; decide
  have h2 : (s.toList == [102, 95, 99, 111, 110, 99, 97, 116]) = false := by rw [e]; decide
  have h3 : (s.toList == [102, 95, 109, 101, 109, 98, 101, 114]) = false := by rw [e]; decide
  have h4 : (s.toList == [102, 95, 115, 105, 122, 101]) = false := by rw [e]; decide
  have h5 : (s.toList == [102, 95, 102, 105, 114, 115, 116]) = false := by rw [e]; decide
  have h6 : (s.toList == [102, 95, 108, 97, 115, 116]) = false := by rw [e]; decide
  have h7 : (s.toList == [102, 95, 114, 101, 115, 116]) = false := by rw [e]; decide
  have h8 : (s.toList == [102, 95, 114, 101, 118, 101, 114, 115, 101]) = false := by rw [e]; decide
  have HAR : Hid (fnArity (fnOf s) = 2) := by show _ = _; rw [hs]; rfl
  clear e
  have HRHX : Hid (rightV 4 (listV l) = true) := right_list h hl
  have HRHY := Lib.hid hy
  have HRX := Lib.hid hr
  have HC : Hid (callV (fnOf s) [listV l, y] = some (listV (l ++ [y]))) := by show _ = _; rw [hs, call_both (X := l ++ [y]) (by rw [takes_two' (k := 1) rfl rfl rfl hy h hl]) rfl, hr]; rfl
  obtain ⟨X, hX⟩ : ∃ X, X = l ++ [y] := ⟨_, rfl⟩
  have HXX := Lib.hid hX
  have HL1 : Hid ((l).length ≤ 100) := by show _ ≤ _; first | omega | (simp; done) | (simp; omega)
  have HM1 : Hid (([y]).length ≤ 100) := by show _ ≤ _; first | omega | (simp; done) | (simp; omega)
  rw [← hX] at HRX
  clear hX hr
  clear hs
  obtain ⟨b, o, cap, fa, fc, ga, gc, rfl, hcap, hx, hy⟩ := arg_two ha
  have HX := Lib.hid hx; have HY := Lib.hid hy
  have HBH := Lib.hid (show RepLG B w [y] (.slice (some ⟨b, o + 4, none⟩) 1 (cap - 1)) from RepLG.behind ha)
  have HFR := Lib.hid (show RepLG B w [listV l] (.slice (some ⟨b, o, none⟩) 1 cap) from RepLG.front ha 1 (by simp))
  clear ha hx hy
  have HCAP := Lib.hid hcap
  clear hcap
  go_enter Tryd.func6, Tryd.ntmps6
  go_wp2_with fail
  have k1 := boxed_new w (.int .i64 0) (.int .i64 0) (.string ⟨#[]⟩) (.slice none 0 0)
  have b1 := stands_alloc w (.cells #[.int .i64 0, .int .i64 0, .string ⟨#[]⟩, .slice none 0 0] 24)
  generalize w.alloc (.cells #[.int .i64 0, .int .i64 0, .string ⟨#[]⟩, .slice none 0 0] 24) = w1 at *
  have K1 := Lib.hid k1; have B1 := Lib.hid b1
  clear k1 b1
  refine (refArity_any s _).mono ?_
  rintro e w' ⟨rfl, rfl⟩
  rw [HAR.out]
  obtain ⟨q0, q1, q2, q3⟩ := (HX.out.on hB B1.out).cellsL
  go_wp2_with fail
  refine wp_loop_rounds 4 ?_
  rw [rounds_succ]
  go_wp2_with fail
  refine (refRight_at (listV l) B _ _ _ _ _ (hB.up B1.out.size) (HX.out.on hB B1.out).repL).mono ?_
  rw [HRHX.out]
  rintro e w2 ⟨rfl, b⟩
  have B2 := Lib.hid (Below.step B1.out b); have K2 := Lib.hid (K1.out.on b)
  clear b q0 q1 q2 q3 B1 K1
  obtain ⟨q0, q1, q2, q3⟩ := (HY.out.on hB B2.out).cells
  go_wp2_with fail
  rw [rounds_succ]
  go_wp2_with fail
  refine (refRight_at y B _ _ _ _ _ (hB.up B2.out.size) (HY.out.on hB B2.out).rep).mono ?_
  rw [HRHY.out]
  rintro e w3 ⟨rfl, b⟩
  have B3 := Lib.hid (Below.step B2.out b); have K3 := Lib.hid (K2.out.on b)
  clear b q0 q1 q2 q3 B2 K2
  obtain ⟨q0, q1, q2, q3⟩ := (HX.out.on hB B3.out).cellsL
  have b := stands_alloc w3 (.cells #[.int .i64 4, .int .i64 0, .string ⟨#[]⟩, .slice fa l.length fc] 24)
  have B4 := Lib.hid (Below.step B3.out b); have K4 := Lib.hid (K3.out.on b); have L4 := Lib.hid (boxed_new w3 (.int .i64 4) (.int .i64 0) (.string ⟨#[]⟩) (.slice fa l.length fc))
  clear b
  have hk2 := K3.out.lt
  go_wp2_with fail
  rw [rounds_succ]
  go_wp2_with fail
  clear q0 q1 q2 q3
  generalize (w3.alloc (.cells #[.int .i64 4, .int .i64 0, .string ⟨#[]⟩, .slice fa l.length fc] 24)) = w4 at *
  generalize w3.heap.size = bl at *
  have HL := Lib.hid HX.out.lst; have HM := Lib.hid HBH.out
  have hcap := HCAP.out
  have hcap2 : (2 : Int) ≤ (cap : Int) := by omega
  have hcap1 : ¬ cap = 1 := by omega
  have l3 := L4.out.cells.2.2.2
  have l3d : w4.drew.cell? ⟨bl, 3, none⟩ = some (.slice fa l.length fc) := l3
  have hs_ := B4.out.size
  have HBA := Lib.hid (Below.step B4.out (Below.drew (stands_alloc w4 (.cells #[.slice fa l.length fc, .slice (some ⟨b, o + 4, none⟩) 1 (cap - 1)] 22))))
  have KBA := Lib.hid (K4.out.on (Below.drew (stands_alloc w4 (.cells #[.slice fa l.length fc, .slice (some ⟨b, o + 4, none⟩) 1 (cap - 1)] 22))))
  have LBA := Lib.hid (L4.out.on (Below.drew (stands_alloc w4 (.cells #[.slice fa l.length fc, .slice (some ⟨b, o + 4, none⟩) 1 (cap - 1)] 22))))
  have HNE : Hid (bl ≠ w.heap.size) := by show _ ≠ _; omega
  have HLM := Lib.hid (RepLG.on (fun _ h => h) (fun j hj => HBA.out.block j (hB.lt j hj)) HL.out)
  have HMM := Lib.hid (RepLG.on (fun _ h => h) (fun j hj => HBA.out.block j (hB.lt j hj)) HM.out)
  have hBW := hB.up HBA.out.size
  clear hs_
  go_region_held3 (fun w' => w'.cell? ⟨bl, 3, none⟩ = some (.slice fa l.length fc))
    (first | with_reducible exact l3 | with_reducible exact l3d | with_reducible exact LBA.out.cells.2.2.2 | with_reducible exact LZ.out.cells.2.2.2 | with_reducible exact cell_stored LZ.out.cells.2.2.2 HNE.out _ _ _ _)
    (first | (go_at_call 26; refine (list_two_yes HRX.out l [y] HXX.out B _ _ _ _ hBW (lit_1 _ _) HLM.out HMM.out HL1.out HM1.out).mono ?_; rintro e wz ⟨ra, rn, rc, rfl, hr, bb⟩; have HR := Lib.hid hr; have BZ := Lib.hid (Below.step HBA.out bb); have KZ := Lib.hid (KBA.out.on bb); have LZ := Lib.hid (LBA.out.on bb); obtain ⟨t0, t1, t2, t3⟩ := KZ.out.cells; have z0 := frozen_of_row _ _ 0 _ _ KZ.out; have z1 := frozen_of_row _ _ 1 _ _ KZ.out; have z2 := frozen_of_row _ _ 2 _ _ KZ.out; have z3 := frozen_of_row _ _ 3 _ _ KZ.out; clear bb))
  all_goals
    go_wp2_with fail
    refine bodyPost_ret (v := .tuple #[.agg #[.int .i64 4, .int .i64 0, .string ⟨#[]⟩, .slice ra rn rc], .bool true]) (by simp [results, Tryd.results6, go_sem, t0, t1, t2, t3]) rfl ?_
    rw [HC.out, ← HXX.out]
    exact ref_some hB BZ.out (rep_list (RepLG.on (fun j hj => by have := HBA.out.size; rcases hj with h | h; exact .inl h; exact .inr ⟨by omega, h.2⟩) (fun _ _ => rfl) HR.out)) _ _ _ _
set_option maxRecDepth 100000 in
set_option maxHeartbeats 1000000 in
theorem ref_append0 (s : ByteArray) (l : List V) (y : V) (B : Nat → Prop) (w : World) (a : Value) (hB : Under B w.heap.size) (ha : RepLG B w [listV l, y] a) (hs : fnOf s = 1) (h : All3 l) (hl : l.length ≤ 16) (hy : rightV 4 y = true) (hr : rightV 4 (listV (l ++ [y])) = false) :
    Calls Tryd.prog 6 #[.string s, a] w (RefPost B (callV (fnOf s) [listV l, y]) w) := by
  have e := fn_text (k := 1) (by decide) hs
  have h0 : (s.toList == [102, 95, 99, 111, 110, 115]) = false := by rw [e]; decide
  have h1 : (s.toList == [102, 95, 97, 112, 112, 101, 110, 100]) = true := by rw [e]; decide
  have h2 : (s.toList == [102, 95, 99, 111, 110, 99, 97, 116]) = false := by rw [e]; decide
  have h3 : (s.toList == [102, 95, 109, 101, 109, 98, 101, 114]) = false := by rw [e]; decide
  have h4 : (s.toList == [102, 95, 115, 105, 122, 101]) = false := by rw [e]; decide
  have h5 : (s.toList == [102, 95, 102, 105, 114, 115, 116]) = false := by rw [e]; decide
  have h6 : (s.toList == [102, 95, 108, 97, 115, 116]) = false := by rw [e]; decide
  have h7 : (s.toList == [102, 95, 114, 101, 115, 116]) = false := by rw [e]; decide
  have h8 : (s.toList == [102, 95, 114, 101, 118, 101, 114, 115, 101]) = false := by rw [e]; decide
  have HAR : Hid (fnArity (fnOf s) = 2) := by show _ = _; rw [hs]; rfl
  clear e
  have HRHX : Hid (rightV 4 (listV l) = true) := right_list h hl
  have HRHY := Lib.hid hy
  have HRX := Lib.hid hr
  have HC : Hid (callV (fnOf s) [listV l, y] = none) := by show _ = _; rw [hs, call_both (X := l ++ [y]) (by rw [takes_two' (k := 1) rfl rfl rfl hy h hl]) rfl, hr]; rfl
  obtain ⟨X, hX⟩ : ∃ X, X = l ++ [y] := ⟨_, rfl⟩
  have HXX := Lib.hid hX
  have HL1 : Hid ((l).length ≤ 100) := by show _ ≤ _; first | omega | (simp; done) | (simp; omega)
  have HM1 : Hid (([y]).length ≤ 100) := by show _ ≤ _; first | omega | (simp; done) | (simp; omega)
  rw [← hX] at HRX
  clear hX hr
  clear hs
  obtain ⟨b, o, cap, fa, fc, ga, gc, rfl, hcap, hx, hy⟩ := arg_two ha
  have HX := Lib.hid hx; have HY := Lib.hid hy
  have HBH := Lib.hid (show RepLG B w [y] (.slice (some ⟨b, o + 4, none⟩) 1 (cap - 1)) from RepLG.behind ha)
  have HFR := Lib.hid (show RepLG B w [listV l] (.slice (some ⟨b, o, none⟩) 1 cap) from RepLG.front ha 1 (by simp))
  clear ha hx hy
  have HCAP := Lib.hid hcap
  clear hcap
  go_enter Tryd.func6, Tryd.ntmps6
  go_wp2_with fail
  have k1 := boxed_new w (.int .i64 0) (.int .i64 0) (.string ⟨#[]⟩) (.slice none 0 0)
  have b1 := stands_alloc w (.cells #[.int .i64 0, .int .i64 0, .string ⟨#[]⟩, .slice none 0 0] 24)
  generalize w.alloc (.cells #[.int .i64 0, .int .i64 0, .string ⟨#[]⟩, .slice none 0 0] 24) = w1 at *
  have K1 := Lib.hid k1; have B1 := Lib.hid b1
  clear k1 b1
  refine (refArity_any s _).mono ?_
  rintro e w' ⟨rfl, rfl⟩
  rw [HAR.out]
  obtain ⟨q0, q1, q2, q3⟩ := (HX.out.on hB B1.out).cellsL
  go_wp2_with fail
  refine wp_loop_rounds 4 ?_
  rw [rounds_succ]
  go_wp2_with fail
  refine (refRight_at (listV l) B _ _ _ _ _ (hB.up B1.out.size) (HX.out.on hB B1.out).repL).mono ?_
  rw [HRHX.out]
  rintro e w2 ⟨rfl, b⟩
  have B2 := Lib.hid (Below.step B1.out b); have K2 := Lib.hid (K1.out.on b)
  clear b q0 q1 q2 q3 B1 K1
  obtain ⟨q0, q1, q2, q3⟩ := (HY.out.on hB B2.out).cells
  go_wp2_with fail
  rw [rounds_succ]
  go_wp2_with fail
  refine (refRight_at y B _ _ _ _ _ (hB.up B2.out.size) (HY.out.on hB B2.out).rep).mono ?_
  rw [HRHY.out]
  rintro e w3 ⟨rfl, b⟩
  have B3 := Lib.hid (Below.step B2.out b); have K3 := Lib.hid (K2.out.on b)
  clear b q0 q1 q2 q3 B2 K2
  obtain ⟨q0, q1, q2, q3⟩ := (HX.out.on hB B3.out).cellsL
  have b := stands_alloc w3 (.cells #[.int .i64 4, .int .i64 0, .string ⟨#[]⟩, .slice fa l.length fc] 24)
  have B4 := Lib.hid (Below.step B3.out b); have K4 := Lib.hid (K3.out.on b); have L4 := Lib.hid (boxed_new w3 (.int .i64 4) (.int .i64 0) (.string ⟨#[]⟩) (.slice fa l.length fc))
  clear b
  have hk2 := K3.out.lt
  go_wp2_with fail
  rw [rounds_succ]
  go_wp2_with fail
  clear q0 q1 q2 q3
  generalize (w3.alloc (.cells #[.int .i64 4, .int .i64 0, .string ⟨#[]⟩, .slice fa l.length fc] 24)) = w4 at *
  generalize w3.heap.size = bl at *
  have HL := Lib.hid HX.out.lst; have HM := Lib.hid HBH.out
  have hcap := HCAP.out
  have hcap2 : (2 : Int) ≤ (cap : Int) := by omega
  have hcap1 : ¬ cap = 1 := by omega
  have l3 := L4.out.cells.2.2.2
  have l3d : w4.drew.cell? ⟨bl, 3, none⟩ = some (.slice fa l.length fc) := l3
  have hs_ := B4.out.size
  have HBA := Lib.hid (Below.step B4.out (Below.drew (stands_alloc w4 (.cells #[.slice fa l.length fc, .slice (some ⟨b, o + 4, none⟩) 1 (cap - 1)] 22))))
  have KBA := Lib.hid (K4.out.on (Below.drew (stands_alloc w4 (.cells #[.slice fa l.length fc, .slice (some ⟨b, o + 4, none⟩) 1 (cap - 1)] 22))))
  have LBA := Lib.hid (L4.out.on (Below.drew (stands_alloc w4 (.cells #[.slice fa l.length fc, .slice (some ⟨b, o + 4, none⟩) 1 (cap - 1)] 22))))
  have HNE : Hid (bl ≠ w.heap.size) := by show _ ≠ _; omega
  have HLM := Lib.hid (RepLG.on (fun _ h => h) (fun j hj => HBA.out.block j (hB.lt j hj)) HL.out)
  have HMM := Lib.hid (RepLG.on (fun _ h => h) (fun j hj => HBA.out.block j (hB.lt j hj)) HM.out)
  have hBW := hB.up HBA.out.size
  clear hs_
  go_region_held3 (fun w' => w'.cell? ⟨bl, 3, none⟩ = some (.slice fa l.length fc))
    (first | with_reducible exact l3 | with_reducible exact l3d | with_reducible exact LBA.out.cells.2.2.2 | with_reducible exact LZ.out.cells.2.2.2 | with_reducible exact cell_stored LZ.out.cells.2.2.2 HNE.out _ _ _ _)
    (first | (go_at_call 26; refine (list_two_no HRX.out l [y] HXX.out B _ _ _ _ hBW (lit_1 _ _) HLM.out HMM.out HL1.out HM1.out).mono ?_; rintro e wz ⟨rfl, bb⟩; have BZ := Lib.hid (Below.step HBA.out bb); have KZ := Lib.hid (KBA.out.on bb); have LZ := Lib.hid (LBA.out.on bb); obtain ⟨t0, t1, t2, t3⟩ := KZ.out.cells; have z0 := frozen_of_row _ _ 0 _ _ KZ.out; have z1 := frozen_of_row _ _ 1 _ _ KZ.out; have z2 := frozen_of_row _ _ 2 _ _ KZ.out; have z3 := frozen_of_row _ _ 3 _ _ KZ.out; clear bb))
  all_goals
    go_wp2_with fail
    refine bodyPost_ret (v := .tuple #[zeroCells, .bool false]) (by simp [results, zeroCells, Tryd.results6, go_sem, t0, t1, t2, t3]) rfl ?_
    rw [HC.out]
    exact ref_none BZ.out _ _ _ _

end Go.Proofs.YtaomlkglodeaoaaDoor

/-
  The document's own Call of two arguments: cons.
-/
namespace Go.Proofs.YtaomlkglodeaoaaDoor
open Go.RowKit

open Go.Proofs.YtaomlkglodeaoaaDoor.valueLists
set_option maxRecDepth 100000 in
set_option maxHeartbeats 1000000 in
theorem ref_cons1 (s : ByteArray) (x : V) (l : List V) (B : Nat → Prop) (w : World) (a : Value) (hB : Under B w.heap.size) (ha : RepLG B w [x, listV l] a) (hs : fnOf s = 0) (h : All3 l) (hl : l.length ≤ 16) (hx : rightV 4 x = true) (hr : rightV 4 (listV ([x] ++ l)) = true) :
    Calls Tryd.prog 6 #[.string s, a] w (RefPost B (callV (fnOf s) [x, listV l]) w) := by
  have e := fn_text (k := 0) (by decide) hs
  have h0 : (s.toList == [102, 95, 99, 111, 110, 115]) = true := by rw [e]; decide
  have h1 : (s.toList == [102, 95, 97, 112, 112, 101, 110, 100]) = false := by rw [e]; decide
  have h2 : (s.toList == [102, 95, 99, 111, 110, 99, 97, 116]) = false := by rw [e]; decide
  have h3 : (s.toList == [102, 95, 109, 101, 109, 98, 101, 114]) = false := by rw [e]; decide
  have h4 : (s.toList == [102, 95, 115, 105, 122, 101]) = false := by rw [e]; decide
  have h5 : (s.toList == [102, 95, 102, 105, 114, 115, 116]) = false := by rw [e]; decide
  have h6 : (s.toList == [102, 95, 108, 97, 115, 116]) = false := by rw [e]; decide
  have h7 : (s.toList == [102, 95, 114, 101, 115, 116]) = false := by rw [e]; decide
  have h8 : (s.toList == [102, 95, 114, 101, 118, 101, 114, 115, 101]) = false := by rw [e]; decide
  have HAR : Hid (fnArity (fnOf s) = 2) := by show _ = _; rw [hs]; rfl
  clear e
  have HRHY : Hid (rightV 4 (listV l) = true) := right_list h hl
  have HRHX := Lib.hid hx
  have HRX := Lib.hid hr
  have HC : Hid (callV (fnOf s) [x, listV l] = some (listV ([x] ++ l))) := by show _ = _; rw [hs, call_both (X := [x] ++ l) (by show (fnArity 0 == 2 && (argB false x && argB true (listV l))) = true; rw [argB_any hx, argB_list (right_list h hl)]; rfl) rfl, hr]; rfl
  obtain ⟨X, hX⟩ : ∃ X, X = [x] ++ l := ⟨_, rfl⟩
  have HXX := Lib.hid hX
  have HL1 : Hid (([x]).length ≤ 100) := by show _ ≤ _; first | omega | (simp; done) | (simp; omega)
  have HM1 : Hid ((l).length ≤ 100) := by show _ ≤ _; first | omega | (simp; done) | (simp; omega)
  rw [← hX] at HRX
  clear hX hr
  clear hs
  obtain ⟨b, o, cap, fa, fc, ga, gc, rfl, hcap, hx, hy⟩ := arg_two ha
  have HX := Lib.hid hx; have HY := Lib.hid hy
  have HBH := Lib.hid (show RepLG B w [listV l] (.slice (some ⟨b, o + 4, none⟩) 1 (cap - 1)) from RepLG.behind ha)
  have HFR := Lib.hid (show RepLG B w [x] (.slice (some ⟨b, o, none⟩) 1 cap) from RepLG.front ha 1 (by simp))
  clear ha hx hy
  have HCAP := Lib.hid hcap
  clear hcap
  go_enter Tryd.func6, Tryd.ntmps6
  go_wp2_with fail
  have k1 := boxed_new w (.int .i64 0) (.int .i64 0) (.string ⟨#[]⟩) (.slice none 0 0)
  have b1 := stands_alloc w (.cells #[.int .i64 0, .int .i64 0, .string ⟨#[]⟩, .slice none 0 0] 24)
  generalize w.alloc (.cells #[.int .i64 0, .int .i64 0, .string ⟨#[]⟩, .slice none 0 0] 24) = w1 at *
  have K1 := Lib.hid k1; have B1 := Lib.hid b1
  clear k1 b1
  refine (refArity_any s _).mono ?_
  rintro e w' ⟨rfl, rfl⟩
  rw [HAR.out]
  obtain ⟨q0, q1, q2, q3⟩ := (HX.out.on hB B1.out).cells
  go_wp2_with fail
  refine wp_loop_rounds 4 ?_
  rw [rounds_succ]
  go_wp2_with fail
  refine (refRight_at x B _ _ _ _ _ (hB.up B1.out.size) (HX.out.on hB B1.out).rep).mono ?_
  rw [HRHX.out]
  rintro e w2 ⟨rfl, b⟩
  have B2 := Lib.hid (Below.step B1.out b); have K2 := Lib.hid (K1.out.on b)
  clear b q0 q1 q2 q3 B1 K1
  obtain ⟨q0, q1, q2, q3⟩ := (HY.out.on hB B2.out).cellsL
  go_wp2_with fail
  rw [rounds_succ]
  go_wp2_with fail
  refine (refRight_at (listV l) B _ _ _ _ _ (hB.up B2.out.size) (HY.out.on hB B2.out).repL).mono ?_
  rw [HRHY.out]
  rintro e w3 ⟨rfl, b⟩
  have B3 := Lib.hid (Below.step B2.out b); have K3 := Lib.hid (K2.out.on b)
  clear b q0 q1 q2 q3 B2 K2
  obtain ⟨q0, q1, q2, q3⟩ := (HX.out.on hB B3.out).cells
  have b := stands_alloc w3 (.cells #[.int .i64 x.kind, .int .i64 x.num, .string x.text, .slice fa x.list.length fc] 24)
  have B4 := Lib.hid (Below.step B3.out b); have K4 := Lib.hid (K3.out.on b); have L4 := Lib.hid (boxed_new w3 (.int .i64 x.kind) (.int .i64 x.num) (.string x.text) (.slice fa x.list.length fc))
  clear b
  have hk2 := K3.out.lt
  have zl0 := frozen_of_row _ _ 0 _ _ L4.out
  have zl1 := frozen_of_row _ _ 1 _ _ L4.out
  have zl2 := frozen_of_row _ _ 2 _ _ L4.out
  have zl3 := frozen_of_row _ _ 3 _ _ L4.out
  obtain ⟨r0, r1, r2, r3⟩ := (HY.out.on hB B4.out).cellsL
  have B5 := Lib.hid (Below.step B3.out (stands_alloc w3 (.cells #[.int .i64 4, .int .i64 0, .string ⟨#[]⟩, .slice ga l.length gc] 24)))
  have K5 := Lib.hid (K3.out.on (stands_alloc w3 (.cells #[.int .i64 4, .int .i64 0, .string ⟨#[]⟩, .slice ga l.length gc] 24)))
  have L5 := Lib.hid (boxed_new w3 (.int .i64 4) (.int .i64 0) (.string ⟨#[]⟩) (.slice ga l.length gc))
  go_wp2_with fail
  rw [rounds_succ]
  go_wp2_with fail
  clear q0 q1 q2 q3 zl0 zl1 zl2 zl3 r0 r1 r2
  generalize w3.alloc (.cells #[.int .i64 4, .int .i64 0, .string ⟨#[]⟩, .slice ga l.length gc] 24) = w5 at *
  generalize w3.heap.size = bl at *
  have HL := Lib.hid HFR.out; have HM := Lib.hid HY.out.lst
  have hcap := HCAP.out
  have hcap2 : (2 : Int) ≤ (cap : Int) := by omega
  have hcap1 : ¬ cap = 1 := by omega
  have hcap3 : 1 ≤ cap := by omega
  have hcap4 : (1 : Int) ≤ (cap : Int) := by omega
  have l3 := L5.out.cells.2.2.2
  have l3d : w5.drew.cell? ⟨bl, 3, none⟩ = some (.slice ga l.length gc) := l3
  have hs_ := B5.out.size
  have HBA := Lib.hid (Below.step B5.out (Below.drew (stands_alloc w5 (.cells #[.slice (some ⟨b, o, none⟩) 1 cap, .slice ga l.length gc] 22))))
  have KBA := Lib.hid (K5.out.on (Below.drew (stands_alloc w5 (.cells #[.slice (some ⟨b, o, none⟩) 1 cap, .slice ga l.length gc] 22))))
  have LBA := Lib.hid (L5.out.on (Below.drew (stands_alloc w5 (.cells #[.slice (some ⟨b, o, none⟩) 1 cap, .slice ga l.length gc] 22))))
  have HNE : Hid (bl ≠ w.heap.size) := by show _ ≠ _; omega
  have HLM := Lib.hid (RepLG.on (fun _ h => h) (fun j hj => HBA.out.block j (hB.lt j hj)) HL.out)
  have HMM := Lib.hid (RepLG.on (fun _ h => h) (fun j hj => HBA.out.block j (hB.lt j hj)) HM.out)
  have hBW := hB.up HBA.out.size
  clear hs_
  go_region_held3 (fun w' => w'.cell? ⟨bl, 3, none⟩ = some (.slice ga l.length gc))
    (first | with_reducible exact l3 | with_reducible exact l3d | with_reducible exact LBA.out.cells.2.2.2 | with_reducible exact LZ.out.cells.2.2.2 | with_reducible exact cell_stored LZ.out.cells.2.2.2 HNE.out _ _ _ _)
    (first | (go_at_call 26; refine (list_two_yes HRX.out [x] l HXX.out B _ _ _ _ hBW (lit_1 _ _) HLM.out HMM.out HL1.out HM1.out).mono ?_; rintro e wz ⟨ra, rn, rc, rfl, hr, bb⟩; have HR := Lib.hid hr; have BZ := Lib.hid (Below.step HBA.out bb); have KZ := Lib.hid (KBA.out.on bb); have LZ := Lib.hid (LBA.out.on bb); obtain ⟨t0, t1, t2, t3⟩ := KZ.out.cells; have z0 := frozen_of_row _ _ 0 _ _ KZ.out; have z1 := frozen_of_row _ _ 1 _ _ KZ.out; have z2 := frozen_of_row _ _ 2 _ _ KZ.out; have z3 := frozen_of_row _ _ 3 _ _ KZ.out; clear bb))
  all_goals
    go_wp2_with fail
    refine bodyPost_ret (v := .tuple #[.agg #[.int .i64 4, .int .i64 0, .string ⟨#[]⟩, .slice ra rn rc], .bool true]) (by simp [results, Tryd.results6, go_sem, t0, t1, t2, t3]) rfl ?_
    rw [HC.out, ← HXX.out]
    exact ref_some hB BZ.out (rep_list (RepLG.on (fun j hj => by have := HBA.out.size; rcases hj with h | h; exact .inl h; exact .inr ⟨by omega, h.2⟩) (fun _ _ => rfl) HR.out)) _ _ _ _
set_option maxRecDepth 100000 in
set_option maxHeartbeats 1000000 in
theorem ref_cons0 (s : ByteArray) (x : V) (l : List V) (B : Nat → Prop) (w : World) (a : Value) (hB : Under B w.heap.size) (ha : RepLG B w [x, listV l] a) (hs : fnOf s = 0) (h : All3 l) (hl : l.length ≤ 16) (hx : rightV 4 x = true) (hr : rightV 4 (listV ([x] ++ l)) = false) :
    Calls Tryd.prog 6 #[.string s, a] w (RefPost B (callV (fnOf s) [x, listV l]) w) := by
  have e := fn_text (k := 0) (by decide) hs
  have h0 : (s.toList == [102, 95, 99, 111, 110, 115]) = true := by rw [e]; decide
  have h1 : (s.toList == [102, 95, 97, 112, 112, 101, 110, 100]) = false := by rw [e]; decide
  have h2 : (s.toList == [102, 95, 99, 111, 110, 99, 97, 116]) = false := by rw [e]; decide
  have h3 : (s.toList == [102, 95, 109, 101, 109, 98, 101, 114]) = false := by rw [e]; decide
  have h4 : (s.toList == [102, 95, 115, 105, 122, 101]) = false := by rw [e]; decide
  have h5 : (s.toList == [102, 95, 102, 105, 114, 115, 116]) = false := by rw [e]; decide
  have h6 : (s.toList == [102, 95, 108, 97, 115, 116]) = false := by rw [e]; decide
  have h7 : (s.toList == [102, 95, 114, 101, 115, 116]) = false := by rw [e]; decide
  have h8 : (s.toList == [102, 95, 114, 101, 118, 101, 114, 115, 101]) = false := by rw [e]; decide
  have HAR : Hid (fnArity (fnOf s) = 2) := by show _ = _; rw [hs]; rfl
  clear e
  have HRHY : Hid (rightV 4 (listV l) = true) := right_list h hl
  have HRHX := Lib.hid hx
  have HRX := Lib.hid hr
  have HC : Hid (callV (fnOf s) [x, listV l] = none) := by show _ = _; rw [hs, call_both (X := [x] ++ l) (by show (fnArity 0 == 2 && (argB false x && argB true (listV l))) = true; rw [argB_any hx, argB_list (right_list h hl)]; rfl) rfl, hr]; rfl
  obtain ⟨X, hX⟩ : ∃ X, X = [x] ++ l := ⟨_, rfl⟩
  have HXX := Lib.hid hX
  have HL1 : Hid (([x]).length ≤ 100) := by show _ ≤ _; first | omega | (simp; done) | (simp; omega)
  have HM1 : Hid ((l).length ≤ 100) := by show _ ≤ _; first | omega | (simp; done) | (simp; omega)
  rw [← hX] at HRX
  clear hX hr
  clear hs
  obtain ⟨b, o, cap, fa, fc, ga, gc, rfl, hcap, hx, hy⟩ := arg_two ha
  have HX := Lib.hid hx; have HY := Lib.hid hy
  have HBH := Lib.hid (show RepLG B w [listV l] (.slice (some ⟨b, o + 4, none⟩) 1 (cap - 1)) from RepLG.behind ha)
  have HFR := Lib.hid (show RepLG B w [x] (.slice (some ⟨b, o, none⟩) 1 cap) from RepLG.front ha 1 (by simp))
  clear ha hx hy
  have HCAP := Lib.hid hcap
  clear hcap
  go_enter Tryd.func6, Tryd.ntmps6
  go_wp2_with fail
  have k1 := boxed_new w (.int .i64 0) (.int .i64 0) (.string ⟨#[]⟩) (.slice none 0 0)
  have b1 := stands_alloc w (.cells #[.int .i64 0, .int .i64 0, .string ⟨#[]⟩, .slice none 0 0] 24)
  generalize w.alloc (.cells #[.int .i64 0, .int .i64 0, .string ⟨#[]⟩, .slice none 0 0] 24) = w1 at *
  have K1 := Lib.hid k1; have B1 := Lib.hid b1
  clear k1 b1
  refine (refArity_any s _).mono ?_
  rintro e w' ⟨rfl, rfl⟩
  rw [HAR.out]
  obtain ⟨q0, q1, q2, q3⟩ := (HX.out.on hB B1.out).cells
  go_wp2_with fail
  refine wp_loop_rounds 4 ?_
  rw [rounds_succ]
  go_wp2_with fail
  refine (refRight_at x B _ _ _ _ _ (hB.up B1.out.size) (HX.out.on hB B1.out).rep).mono ?_
  rw [HRHX.out]
  rintro e w2 ⟨rfl, b⟩
  have B2 := Lib.hid (Below.step B1.out b); have K2 := Lib.hid (K1.out.on b)
  clear b q0 q1 q2 q3 B1 K1
  obtain ⟨q0, q1, q2, q3⟩ := (HY.out.on hB B2.out).cellsL
  go_wp2_with fail
  rw [rounds_succ]
  go_wp2_with fail
  refine (refRight_at (listV l) B _ _ _ _ _ (hB.up B2.out.size) (HY.out.on hB B2.out).repL).mono ?_
  rw [HRHY.out]
  rintro e w3 ⟨rfl, b⟩
  have B3 := Lib.hid (Below.step B2.out b); have K3 := Lib.hid (K2.out.on b)
  clear b q0 q1 q2 q3 B2 K2
  obtain ⟨q0, q1, q2, q3⟩ := (HX.out.on hB B3.out).cells
  have b := stands_alloc w3 (.cells #[.int .i64 x.kind, .int .i64 x.num, .string x.text, .slice fa x.list.length fc] 24)
  have B4 := Lib.hid (Below.step B3.out b); have K4 := Lib.hid (K3.out.on b); have L4 := Lib.hid (boxed_new w3 (.int .i64 x.kind) (.int .i64 x.num) (.string x.text) (.slice fa x.list.length fc))
  clear b
  have hk2 := K3.out.lt
  have zl0 := frozen_of_row _ _ 0 _ _ L4.out
  have zl1 := frozen_of_row _ _ 1 _ _ L4.out
  have zl2 := frozen_of_row _ _ 2 _ _ L4.out
  have zl3 := frozen_of_row _ _ 3 _ _ L4.out
  obtain ⟨r0, r1, r2, r3⟩ := (HY.out.on hB B4.out).cellsL
  have B5 := Lib.hid (Below.step B3.out (stands_alloc w3 (.cells #[.int .i64 4, .int .i64 0, .string ⟨#[]⟩, .slice ga l.length gc] 24)))
  have K5 := Lib.hid (K3.out.on (stands_alloc w3 (.cells #[.int .i64 4, .int .i64 0, .string ⟨#[]⟩, .slice ga l.length gc] 24)))
  have L5 := Lib.hid (boxed_new w3 (.int .i64 4) (.int .i64 0) (.string ⟨#[]⟩) (.slice ga l.length gc))
  go_wp2_with fail
  rw [rounds_succ]
  go_wp2_with fail
  clear q0 q1 q2 q3 zl0 zl1 zl2 zl3 r0 r1 r2
  generalize w3.alloc (.cells #[.int .i64 4, .int .i64 0, .string ⟨#[]⟩, .slice ga l.length gc] 24) = w5 at *
  generalize w3.heap.size = bl at *
  have HL := Lib.hid HFR.out; have HM := Lib.hid HY.out.lst
  have hcap := HCAP.out
  have hcap2 : (2 : Int) ≤ (cap : Int) := by omega
  have hcap1 : ¬ cap = 1 := by omega
  have hcap3 : 1 ≤ cap := by omega
  have hcap4 : (1 : Int) ≤ (cap : Int) := by omega
  have l3 := L5.out.cells.2.2.2
  have l3d : w5.drew.cell? ⟨bl, 3, none⟩ = some (.slice ga l.length gc) := l3
  have hs_ := B5.out.size
  have HBA := Lib.hid (Below.step B5.out (Below.drew (stands_alloc w5 (.cells #[.slice (some ⟨b, o, none⟩) 1 cap, .slice ga l.length gc] 22))))
  have KBA := Lib.hid (K5.out.on (Below.drew (stands_alloc w5 (.cells #[.slice (some ⟨b, o, none⟩) 1 cap, .slice ga l.length gc] 22))))
  have LBA := Lib.hid (L5.out.on (Below.drew (stands_alloc w5 (.cells #[.slice (some ⟨b, o, none⟩) 1 cap, .slice ga l.length gc] 22))))
  have HNE : Hid (bl ≠ w.heap.size) := by show _ ≠ _; omega
  have HLM := Lib.hid (RepLG.on (fun _ h => h) (fun j hj => HBA.out.block j (hB.lt j hj)) HL.out)
  have HMM := Lib.hid (RepLG.on (fun _ h => h) (fun j hj => HBA.out.block j (hB.lt j hj)) HM.out)
  have hBW := hB.up HBA.out.size
  clear hs_
  go_region_held3 (fun w' => w'.cell? ⟨bl, 3, none⟩ = some (.slice ga l.length gc))
    (first | with_reducible exact l3 | with_reducible exact l3d | with_reducible exact LBA.out.cells.2.2.2 | with_reducible exact LZ.out.cells.2.2.2 | with_reducible exact cell_stored LZ.out.cells.2.2.2 HNE.out _ _ _ _)
    (first | (go_at_call 26; refine (list_two_no HRX.out [x] l HXX.out B _ _ _ _ hBW (lit_1 _ _) HLM.out HMM.out HL1.out HM1.out).mono ?_; rintro e wz ⟨rfl, bb⟩; have BZ := Lib.hid (Below.step HBA.out bb); have KZ := Lib.hid (KBA.out.on bb); have LZ := Lib.hid (LBA.out.on bb); obtain ⟨t0, t1, t2, t3⟩ := KZ.out.cells; have z0 := frozen_of_row _ _ 0 _ _ KZ.out; have z1 := frozen_of_row _ _ 1 _ _ KZ.out; have z2 := frozen_of_row _ _ 2 _ _ KZ.out; have z3 := frozen_of_row _ _ 3 _ _ KZ.out; clear bb))
  all_goals
    go_wp2_with fail
    refine bodyPost_ret (v := .tuple #[zeroCells, .bool false]) (by simp [results, zeroCells, Tryd.results6, go_sem, t0, t1, t2, t3]) rfl ?_
    rw [HC.out]
    exact ref_none BZ.out _ _ _ _

end Go.Proofs.YtaomlkglodeaoaaDoor
