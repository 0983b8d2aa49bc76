/-
  The document's own Call of two arguments: concat.
-/
import Derived.Test.YtaomlkglodeaoaaDoorW22
import Derived.Test.YtaomlkglodeaoaaDoorW18
namespace Go.Proofs.YtaomlkglodeaoaaDoor
open Go.RowKit

open Go.Proofs.YtaomlkglodeaoaaDoor.valueLists
set_option maxRecDepth 100000 in
set_option maxHeartbeats 1000000 in
theorem ref_concat1 (s : ByteArray) (l m : List V) (B : Nat → Prop) (w : World) (a : Value) (hB : Under B w.heap.size) (ha : RepLG B w [listV l, listV m] a) (hs : fnOf s = 2) (h : All3 l) (hl : l.length ≤ 16) (h' : All3 m) (hl' : m.length ≤ 16) (hr : rightV 4 (listV (l ++ m)) = true) :
    Calls Tryd.prog 6 #[.string s, a] w (RefPost B (callV (fnOf s) [listV l, listV m]) w) := by
  have e := fn_text (k := 2) (by decide) hs
  have h0 : (s.toList == [102, 95, 99, 111, 110, 115]) = false := by rw [e]; decide
  have h1 : (s.toList == [102, 95, 97, 112, 112, 101, 110, 100]) = false := by rw [e]; decide
  have h2 : (s.toList == [102, 95, 99, 111, 110, 99, 97, 116]) = true := by rw [e]; decide
  have h3 : (s.toList == [102, 95, 109, 101, 109, 98, 101, 114]) = false := by rw [e]; decide
  have h4 : (s.toList == [102, 95, 115, 105, 122, 101]) = false := by rw [e]; decide
  have h5 : (s.toList == [102, 95, 102, 105, 114, 115, 116]) = false := by rw [e]; decide
  have h6 : (s.toList == [102, 95, 108, 97, 115, 116]) = false := by rw [e]; decide
  have h7 : (s.toList == [102, 95, 114, 101, 115, 116]) = false := by rw [e]; decide
  have h8 : (s.toList == [102, 95, 114, 101, 118, 101, 114, 115, 101]) = false := by rw [e]; decide
  have HAR : Hid (fnArity (fnOf s) = 2) := by show _ = _; rw [hs]; rfl
  clear e
  have HRHX : Hid (rightV 4 (listV l) = true) := right_list h hl
  have HRHY : Hid (rightV 4 (listV m) = true) := right_list h' hl'
  have HRX := Lib.hid hr
  have HC : Hid (callV (fnOf s) [listV l, listV m] = some (listV (l ++ m))) := by show _ = _; rw [hs, call_both (X := l ++ m) (by rw [takes_concat h h' hl hl']) rfl, hr]; rfl
  obtain ⟨X, hX⟩ : ∃ X, X = l ++ m := ⟨_, rfl⟩
  have HXX := Lib.hid hX
  have HL1 : Hid ((l).length ≤ 100) := by show _ ≤ _; first | omega | (simp; done) | (simp; omega)
  have HM1 : Hid ((m).length ≤ 100) := by show _ ≤ _; first | omega | (simp; done) | (simp; omega)
  rw [← hX] at HRX
  clear hX hr
  clear hs
  obtain ⟨b, o, cap, fa, fc, ga, gc, rfl, hcap, hx, hy⟩ := arg_two ha
  have HX := Lib.hid hx; have HY := Lib.hid hy
  have HBH := Lib.hid (show RepLG B w [listV m] (.slice (some ⟨b, o + 4, none⟩) 1 (cap - 1)) from RepLG.behind ha)
  have HFR := Lib.hid (show RepLG B w [listV l] (.slice (some ⟨b, o, none⟩) 1 cap) from RepLG.front ha 1 (by simp))
  clear ha hx hy
  have HCAP := Lib.hid hcap
  clear hcap
  go_enter Tryd.func6, Tryd.ntmps6
  go_wp2_with fail
  have k1 := boxed_new w (.int .i64 0) (.int .i64 0) (.string ⟨#[]⟩) (.slice none 0 0)
  have b1 := stands_alloc w (.cells #[.int .i64 0, .int .i64 0, .string ⟨#[]⟩, .slice none 0 0] 24)
  generalize w.alloc (.cells #[.int .i64 0, .int .i64 0, .string ⟨#[]⟩, .slice none 0 0] 24) = w1 at *
  have K1 := Lib.hid k1; have B1 := Lib.hid b1
  clear k1 b1
  refine (refArity_any s _).mono ?_
  rintro e w' ⟨rfl, rfl⟩
  rw [HAR.out]
  obtain ⟨q0, q1, q2, q3⟩ := (HX.out.on hB B1.out).cellsL
  go_wp2_with fail
  refine wp_loop_rounds 4 ?_
  rw [rounds_succ]
  go_wp2_with fail
  refine (refRight_at (listV l) B _ _ _ _ _ (hB.up B1.out.size) (HX.out.on hB B1.out).repL).mono ?_
  rw [HRHX.out]
  rintro e w2 ⟨rfl, b⟩
  have B2 := Lib.hid (Below.step B1.out b); have K2 := Lib.hid (K1.out.on b)
  clear b q0 q1 q2 q3 B1 K1
  obtain ⟨q0, q1, q2, q3⟩ := (HY.out.on hB B2.out).cellsL
  go_wp2_with fail
  rw [rounds_succ]
  go_wp2_with fail
  refine (refRight_at (listV m) B _ _ _ _ _ (hB.up B2.out.size) (HY.out.on hB B2.out).repL).mono ?_
  rw [HRHY.out]
  rintro e w3 ⟨rfl, b⟩
  have B3 := Lib.hid (Below.step B2.out b); have K3 := Lib.hid (K2.out.on b)
  clear b q0 q1 q2 q3 B2 K2
  obtain ⟨q0, q1, q2, q3⟩ := (HX.out.on hB B3.out).cellsL
  obtain ⟨r0, r1, r2, r3⟩ := (HY.out.on hB B3.out).cellsL
  have b := stands_alloc w3 (.cells #[.int .i64 4, .int .i64 0, .string ⟨#[]⟩, .slice fa l.length fc] 24)
  have B4 := Lib.hid (Below.step B3.out b); have K4 := Lib.hid (K3.out.on b); have L4 := Lib.hid (boxed_new w3 (.int .i64 4) (.int .i64 0) (.string ⟨#[]⟩) (.slice fa l.length fc))
  clear b
  have hk2 := K3.out.lt
  obtain ⟨r0, r1, r2, r3⟩ := (HY.out.on hB B4.out).cellsL
  go_wp2_with fail
  rw [rounds_succ]
  go_wp2_with fail
  clear q0 q1 q2 q3
  generalize (w3.alloc (.cells #[.int .i64 4, .int .i64 0, .string ⟨#[]⟩, .slice fa l.length fc] 24)) = w4 at *
  generalize w3.heap.size = bl at *
  have hbq : True := trivial
  have HL := Lib.hid HX.out.lst; have HM := Lib.hid HY.out.lst
  have hcap := HCAP.out
  have hcap2 : (2 : Int) ≤ (cap : Int) := by omega
  have hcap1 : ¬ cap = 1 := by omega
  have l3 := L4.out.cells.2.2.2
  have r3d : w4.drew.cell? ⟨b, o + 4 + 3, none⟩ = some (.slice ga m.length gc) := r3
  have HNEB : Hid (b ≠ w.heap.size) := by show _ ≠ _; have := hB.lt b HX.out.lt; omega
  have l3d : w4.drew.cell? ⟨bl, 3, none⟩ = some (.slice fa l.length fc) := l3
  have hs_ := B4.out.size
  have HBA := Lib.hid (Below.step B4.out (Below.drew (stands_alloc w4 (.cells #[.slice fa l.length fc, .slice ga m.length gc] 22))))
  have KBA := Lib.hid (K4.out.on (Below.drew (stands_alloc w4 (.cells #[.slice fa l.length fc, .slice ga m.length gc] 22))))
  have LBA := Lib.hid (L4.out.on (Below.drew (stands_alloc w4 (.cells #[.slice fa l.length fc, .slice ga m.length gc] 22))))
  have HNE : Hid (bl ≠ w.heap.size) := by show _ ≠ _; omega
  have HLM := Lib.hid (RepLG.on (fun _ h => h) (fun j hj => HBA.out.block j (hB.lt j hj)) HL.out)
  have HMM := Lib.hid (RepLG.on (fun _ h => h) (fun j hj => HBA.out.block j (hB.lt j hj)) HM.out)
  have hBW := hB.up HBA.out.size
  clear hs_
  go_region_held3 (fun w' => w'.cell? ⟨bl, 3, none⟩ = some (.slice fa l.length fc) ∧ w'.cell? ⟨b, o + 4 + 3, none⟩ = some (.slice ga m.length gc))
    (first | with_reducible exact ⟨l3, r3⟩ | with_reducible exact ⟨l3d, r3d⟩ | with_reducible exact ⟨LBA.out.cells.2.2.2, (HY.out.on hB HBA.out).cellsL.2.2.2⟩ | with_reducible exact ⟨LZ.out.cells.2.2.2, (HY.out.on hB BZ.out).cellsL.2.2.2⟩ | with_reducible exact ⟨cell_stored LZ.out.cells.2.2.2 HNE.out _ _ _ _, cell_stored (HY.out.on hB BZ.out).cellsL.2.2.2 HNEB.out _ _ _ _⟩)
    (first | (go_at_call 26; refine (list_two_yes HRX.out l m HXX.out B _ _ _ _ hBW (lit_1 _ _) HLM.out HMM.out HL1.out HM1.out).mono ?_; rintro e wz ⟨ra, rn, rc, rfl, hr, bb⟩; have HR := Lib.hid hr; have BZ := Lib.hid (Below.step HBA.out bb); have KZ := Lib.hid (KBA.out.on bb); have LZ := Lib.hid (LBA.out.on bb); obtain ⟨t0, t1, t2, t3⟩ := KZ.out.cells; have z0 := frozen_of_row _ _ 0 _ _ KZ.out; have z1 := frozen_of_row _ _ 1 _ _ KZ.out; have z2 := frozen_of_row _ _ 2 _ _ KZ.out; have z3 := frozen_of_row _ _ 3 _ _ KZ.out; clear bb))
  all_goals
    go_wp2_with fail
    refine bodyPost_ret (v := .tuple #[.agg #[.int .i64 4, .int .i64 0, .string ⟨#[]⟩, .slice ra rn rc], .bool true]) (by simp [results, Tryd.results6, go_sem, t0, t1, t2, t3]) rfl ?_
    rw [HC.out, ← HXX.out]
    exact ref_some hB BZ.out (rep_list (RepLG.on (fun j hj => by have := HBA.out.size; rcases hj with h | h; exact .inl h; exact .inr ⟨by omega, h.2⟩) (fun _ _ => rfl) HR.out)) _ _ _ _
set_option maxRecDepth 100000 in
set_option maxHeartbeats 1000000 in
theorem ref_concat0 (s : ByteArray) (l m : List V) (B : Nat → Prop) (w : World) (a : Value) (hB : Under B w.heap.size) (ha : RepLG B w [listV l, listV m] a) (hs : fnOf s = 2) (h : All3 l) (hl : l.length ≤ 16) (h' : All3 m) (hl' : m.length ≤ 16) (hr : rightV 4 (listV (l ++ m)) = false) :
    Calls Tryd.prog 6 #[.string s, a] w (RefPost B (callV (fnOf s) [listV l, listV m]) w) := by
  have e := fn_text (k := 2) (by decide) hs
  have h0 : (s.toList == [102, 95, 99, 111, 110, 115]) = false := by rw [e]; decide
  have h1 : (s.toList == [102, 95, 97, 112, 112, 101, 110, 100]) = false := by rw [e]; decide
  have h2 : (s.toList == [102, 95, 99, 111, 110, 99, 97, 116]) = true := by rw [e]; decide
  have h3 : (s.toList == [102, 95, 109, 101, 109, 98, 101, 114]) = false := by rw [e]; decide
  have h4 : (s.toList == [102, 95, 115, 105, 122, 101]) = false := by rw [e]; decide
  have h5 : (s.toList == [102, 95, 102, 105, 114, 115, 116]) = false := by rw [e]; decide
  have h6 : (s.toList == [102, 95, 108, 97, 115, 116]) = false := by rw [e]; decide
  have h7 : (s.toList == [102, 95, 114, 101, 115, 116]) = false := by rw [e]; decide
  have h8 : (s.toList == [102, 95, 114, 101, 118, 101, 114, 115, 101]) = false := by rw [e]; decide
  have HAR : Hid (fnArity (fnOf s) = 2) := by show _ = _; rw [hs]; rfl
  clear e
  have HRHX : Hid (rightV 4 (listV l) = true) := right_list h hl
  have HRHY : Hid (rightV 4 (listV m) = true) := right_list h' hl'
  have HRX := Lib.hid hr
  have HC : Hid (callV (fnOf s) [listV l, listV m] = none) := by show _ = _; rw [hs, call_both (X := l ++ m) (by rw [takes_concat h h' hl hl']) rfl, hr]; rfl
  obtain ⟨X, hX⟩ : ∃ X, X = l ++ m := ⟨_, rfl⟩
  have HXX := Lib.hid hX
  have HL1 : Hid ((l).length ≤ 100) := by show _ ≤ _; first | omega | (simp; done) | (simp; omega)
  have HM1 : Hid ((m).length ≤ 100) := by show _ ≤ _; first | omega | (simp; done) | (simp; omega)
  rw [← hX] at HRX
  clear hX hr
  clear hs
  obtain ⟨b, o, cap, fa, fc, ga, gc, rfl, hcap, hx, hy⟩ := arg_two ha
  have HX := Lib.hid hx; have HY := Lib.hid hy
  have HBH := Lib.hid (show RepLG B w [listV m] (.slice (some ⟨b, o + 4, none⟩) 1 (cap - 1)) from RepLG.behind ha)
  have HFR := Lib.hid (show RepLG B w [listV l] (.slice (some ⟨b, o, none⟩) 1 cap) from RepLG.front ha 1 (by simp))
  clear ha hx hy
  have HCAP := Lib.hid hcap
  clear hcap
  go_enter Tryd.func6, Tryd.ntmps6
  go_wp2_with fail
  have k1 := boxed_new w (.int .i64 0) (.int .i64 0) (.string ⟨#[]⟩) (.slice none 0 0)
  have b1 := stands_alloc w (.cells #[.int .i64 0, .int .i64 0, .string ⟨#[]⟩, .slice none 0 0] 24)
  generalize w.alloc (.cells #[.int .i64 0, .int .i64 0, .string ⟨#[]⟩, .slice none 0 0] 24) = w1 at *
  have K1 := Lib.hid k1; have B1 := Lib.hid b1
  clear k1 b1
  refine (refArity_any s _).mono ?_
  rintro e w' ⟨rfl, rfl⟩
  rw [HAR.out]
  obtain ⟨q0, q1, q2, q3⟩ := (HX.out.on hB B1.out).cellsL
  go_wp2_with fail
  refine wp_loop_rounds 4 ?_
  rw [rounds_succ]
  go_wp2_with fail
  refine (refRight_at (listV l) B _ _ _ _ _ (hB.up B1.out.size) (HX.out.on hB B1.out).repL).mono ?_
  rw [HRHX.out]
  rintro e w2 ⟨rfl, b⟩
  have B2 := Lib.hid (Below.step B1.out b); have K2 := Lib.hid (K1.out.on b)
  clear b q0 q1 q2 q3 B1 K1
  obtain ⟨q0, q1, q2, q3⟩ := (HY.out.on hB B2.out).cellsL
  go_wp2_with fail
  rw [rounds_succ]
  go_wp2_with fail
  refine (refRight_at (listV m) B _ _ _ _ _ (hB.up B2.out.size) (HY.out.on hB B2.out).repL).mono ?_
  rw [HRHY.out]
  rintro e w3 ⟨rfl, b⟩
  have B3 := Lib.hid (Below.step B2.out b); have K3 := Lib.hid (K2.out.on b)
  clear b q0 q1 q2 q3 B2 K2
  obtain ⟨q0, q1, q2, q3⟩ := (HX.out.on hB B3.out).cellsL
  obtain ⟨r0, r1, r2, r3⟩ := (HY.out.on hB B3.out).cellsL
  have b := stands_alloc w3 (.cells #[.int .i64 4, .int .i64 0, .string ⟨#[]⟩, .slice fa l.length fc] 24)
  have B4 := Lib.hid (Below.step B3.out b); have K4 := Lib.hid (K3.out.on b); have L4 := Lib.hid (boxed_new w3 (.int .i64 4) (.int .i64 0) (.string ⟨#[]⟩) (.slice fa l.length fc))
  clear b
  have hk2 := K3.out.lt
  obtain ⟨r0, r1, r2, r3⟩ := (HY.out.on hB B4.out).cellsL
  go_wp2_with fail
  rw [rounds_succ]
  go_wp2_with fail
  clear q0 q1 q2 q3
  generalize (w3.alloc (.cells #[.int .i64 4, .int .i64 0, .string ⟨#[]⟩, .slice fa l.length fc] 24)) = w4 at *
  generalize w3.heap.size = bl at *
  have hbq : True := trivial
  have HL := Lib.hid HX.out.lst; have HM := Lib.hid HY.out.lst
  have hcap := HCAP.out
  have hcap2 : (2 : Int) ≤ (cap : Int) := by omega
  have hcap1 : ¬ cap = 1 := by omega
  have l3 := L4.out.cells.2.2.2
  have r3d : w4.drew.cell? ⟨b, o + 4 + 3, none⟩ = some (.slice ga m.length gc) := r3
  have HNEB : Hid (b ≠ w.heap.size) := by show _ ≠ _; have := hB.lt b HX.out.lt; omega
  have l3d : w4.drew.cell? ⟨bl, 3, none⟩ = some (.slice fa l.length fc) := l3
  have hs_ := B4.out.size
  have HBA := Lib.hid (Below.step B4.out (Below.drew (stands_alloc w4 (.cells #[.slice fa l.length fc, .slice ga m.length gc] 22))))
  have KBA := Lib.hid (K4.out.on (Below.drew (stands_alloc w4 (.cells #[.slice fa l.length fc, .slice ga m.length gc] 22))))
  have LBA := Lib.hid (L4.out.on (Below.drew (stands_alloc w4 (.cells #[.slice fa l.length fc, .slice ga m.length gc] 22))))
  have HNE : Hid (bl ≠ w.heap.size) := by show _ ≠ _; omega
  have HLM := Lib.hid (RepLG.on (fun _ h => h) (fun j hj => HBA.out.block j (hB.lt j hj)) HL.out)
  have HMM := Lib.hid (RepLG.on (fun _ h => h) (fun j hj => HBA.out.block j (hB.lt j hj)) HM.out)
  have hBW := hB.up HBA.out.size
  clear hs_
  go_region_held3 (fun w' => w'.cell? ⟨bl, 3, none⟩ = some (.slice fa l.length fc) ∧ w'.cell? ⟨b, o + 4 + 3, none⟩ = some (.slice ga m.length gc))
    (first | with_reducible exact ⟨l3, r3⟩ | with_reducible exact ⟨l3d, r3d⟩ | with_reducible exact ⟨LBA.out.cells.2.2.2, (HY.out.on hB HBA.out).cellsL.2.2.2⟩ | with_reducible exact ⟨LZ.out.cells.2.2.2, (HY.out.on hB BZ.out).cellsL.2.2.2⟩ | with_reducible exact ⟨cell_stored LZ.out.cells.2.2.2 HNE.out _ _ _ _, cell_stored (HY.out.on hB BZ.out).cellsL.2.2.2 HNEB.out _ _ _ _⟩)
    (first | (go_at_call 26; refine (list_two_no HRX.out l m HXX.out B _ _ _ _ hBW (lit_1 _ _) HLM.out HMM.out HL1.out HM1.out).mono ?_; rintro e wz ⟨rfl, bb⟩; have BZ := Lib.hid (Below.step HBA.out bb); have KZ := Lib.hid (KBA.out.on bb); have LZ := Lib.hid (LBA.out.on bb); obtain ⟨t0, t1, t2, t3⟩ := KZ.out.cells; have z0 := frozen_of_row _ _ 0 _ _ KZ.out; have z1 := frozen_of_row _ _ 1 _ _ KZ.out; have z2 := frozen_of_row _ _ 2 _ _ KZ.out; have z3 := frozen_of_row _ _ 3 _ _ KZ.out; clear bb))
  all_goals
    go_wp2_with fail
    refine bodyPost_ret (v := .tuple #[zeroCells, .bool false]) (by simp [results, zeroCells, Tryd.results6, go_sem, t0, t1, t2, t3]) rfl ?_
    rw [HC.out]
    exact ref_none BZ.out _ _ _ _

end Go.Proofs.YtaomlkglodeaoaaDoor

/-
  The document's own Call of two arguments: concat and cons, where the list is none.
-/
namespace Go.Proofs.YtaomlkglodeaoaaDoor
open Go.RowKit

set_option maxRecDepth 100000 in
set_option maxHeartbeats 1000000 in
theorem ref_concat_kind (s : ByteArray) (l : List V) (y : V) (B : Nat → Prop) (w : World) (a : Value) (hB : Under B w.heap.size) (ha : RepLG B w [listV l, y] a) (hs : fnOf s = 2) (h : All3 l) (hl : l.length ≤ 16) (hy : rightV 4 y = true) (hk : ¬ y.kind = 4) :
    Calls Tryd.prog 6 #[.string s, a] w (RefPost B (callV (fnOf s) [listV l, y]) w) := by
  have e := fn_text (k := 2) (by decide) hs
  have h0 : (s.toList == [102, 95, 99, 111, 110, 115]) = false := by rw [e]; decide
  have h1 : (s.toList == [102, 95, 97, 112, 112, 101, 110, 100]) = false := by rw [e]; decide
  have h2 : (s.toList == [102, 95, 99, 111, 110, 99, 97, 116]) = true := by rw [e]; decide
  have h3 : (s.toList == [102, 95, 109, 101, 109, 98, 101, 114]) = false := by rw [e]; decide
  have h4 : (s.toList == [102, 95, 115, 105, 122, 101]) = false := by rw [e]; decide
  have h5 : (s.toList == [102, 95, 102, 105, 114, 115, 116]) = false := by rw [e]; decide
  have h6 : (s.toList == [102, 95, 108, 97, 115, 116]) = false := by rw [e]; decide
  have h7 : (s.toList == [102, 95, 114, 101, 115, 116]) = false := by rw [e]; decide
  have h8 : (s.toList == [102, 95, 114, 101, 118, 101, 114, 115, 101]) = false := by rw [e]; decide
  have HAR : Hid (fnArity (fnOf s) = 2) := by show _ = _; rw [hs]; rfl
  clear e
  have HRHX : Hid (rightV 4 (listV l) = true) := right_list h hl
  have HRHY := Lib.hid hy
  have HC : Hid (callV (fnOf s) [listV l, y] = none) := by show _ = _; rw [hs]; exact call_none fun ht => hk ((takes_kind2 ht).2 (.inr rfl))
  clear hs
  obtain ⟨b, o, cap, fa, fc, ga, gc, rfl, hcap, hx, hy⟩ := arg_two ha
  have HX := Lib.hid hx; have HY := Lib.hid hy
  have HBH := Lib.hid (show RepLG B w [y] (.slice (some ⟨b, o + 4, none⟩) 1 (cap - 1)) from RepLG.behind ha)
  have HFR := Lib.hid (show RepLG B w [listV l] (.slice (some ⟨b, o, none⟩) 1 cap) from RepLG.front ha 1 (by simp))
  clear ha hx
  clear hy
  have HCAP := Lib.hid hcap
  clear hcap
  go_enter Tryd.func6, Tryd.ntmps6
  go_wp2_with fail
  have k1 := boxed_new w (.int .i64 0) (.int .i64 0) (.string ⟨#[]⟩) (.slice none 0 0)
  have b1 := stands_alloc w (.cells #[.int .i64 0, .int .i64 0, .string ⟨#[]⟩, .slice none 0 0] 24)
  generalize w.alloc (.cells #[.int .i64 0, .int .i64 0, .string ⟨#[]⟩, .slice none 0 0] 24) = w1 at *
  have K1 := Lib.hid k1; have B1 := Lib.hid b1
  clear k1 b1
  refine (refArity_any s _).mono ?_
  rintro e w' ⟨rfl, rfl⟩
  rw [HAR.out]
  obtain ⟨q0, q1, q2, q3⟩ := (HX.out.on hB B1.out).cellsL
  go_wp2_with fail
  refine wp_loop_rounds 4 ?_
  rw [rounds_succ]
  go_wp2_with fail
  refine (refRight_at (listV l) B _ _ _ _ _ (hB.up B1.out.size) (HX.out.on hB B1.out).repL).mono ?_
  rw [HRHX.out]
  rintro e w2 ⟨rfl, b⟩
  have B2 := Lib.hid (Below.step B1.out b); have K2 := Lib.hid (K1.out.on b)
  clear b q0 q1 q2 q3 B1 K1
  obtain ⟨q0, q1, q2, q3⟩ := (HY.out.on hB B2.out).cells
  go_wp2_with fail
  rw [rounds_succ]
  go_wp2_with fail
  refine (refRight_at y B _ _ _ _ _ (hB.up B2.out.size) (HY.out.on hB B2.out).rep).mono ?_
  rw [HRHY.out]
  rintro e w3 ⟨rfl, b⟩
  have B3 := Lib.hid (Below.step B2.out b); have K3 := Lib.hid (K2.out.on b)
  clear b q0 q1 q2 q3 B2 K2
  obtain ⟨q0, q1, q2, q3⟩ := (HX.out.on hB B3.out).cellsL
  have b := stands_alloc w3 (.cells #[.int .i64 4, .int .i64 0, .string ⟨#[]⟩, .slice fa l.length fc] 24)
  have B4 := Lib.hid (Below.step B3.out b); have K4 := Lib.hid (K3.out.on b); have L4 := Lib.hid (boxed_new w3 (.int .i64 4) (.int .i64 0) (.string ⟨#[]⟩) (.slice fa l.length fc))
  clear b
  obtain ⟨r0, r1, r2, r3⟩ := (HY.out.on hB B4.out).cells
  obtain ⟨t0, t1, t2, t3⟩ := K4.out.cells
  have z0 := frozen_of_row _ _ 0 _ _ K4.out
  have z1 := frozen_of_row _ _ 1 _ _ K4.out
  have z2 := frozen_of_row _ _ 2 _ _ K4.out
  have z3 := frozen_of_row _ _ 3 _ _ K4.out
  go_wp2_with fail
  rw [rounds_succ]
  go_wp2_with fail
  refine bodyPost_ret (v := .tuple #[zeroCells, .bool false]) (by simp [results, zeroCells, Tryd.results6, go_sem, t0, t1, t2, t3]) rfl ?_
  rw [HC.out]
  exact ref_none B4.out _ _ _ _
set_option maxRecDepth 100000 in
set_option maxHeartbeats 1000000 in
theorem ref_cons_kind (s : ByteArray) (x y : V) (B : Nat → Prop) (w : World) (a : Value) (hB : Under B w.heap.size) (ha : RepLG B w [x, y] a) (hs : fnOf s = 0) (hx : rightV 4 x = true) (hy : rightV 4 y = true) (hk : ¬ y.kind = 4) :
    Calls Tryd.prog 6 #[.string s, a] w (RefPost B (callV (fnOf s) [x, y]) w) := by
  have e := fn_text (k := 0) (by decide) hs
  have h0 : (s.toList == [102, 95, 99, 111, 110, 115]) = true := by rw [e]; decide
  have h1 : (s.toList == [102, 95, 97, 112, 112, 101, 110, 100]) = false := by rw [e]; decide
  have h2 : (s.toList == [102, 95, 99, 111, 110, 99, 97, 116]) = false := by rw [e]; decide
  have h3 : (s.toList == [102, 95, 109, 101, 109, 98, 101, 114]) = false := by rw [e]; decide
  have h4 : (s.toList == [102, 95, 115, 105, 122, 101]) = false := by rw [e]; decide
  have h5 : (s.toList == [102, 95, 102, 105, 114, 115, 116]) = false := by rw [e]; decide
  have h6 : (s.toList == [102, 95, 108, 97, 115, 116]) = false := by rw [e]; decide
  have h7 : (s.toList == [102, 95, 114, 101, 115, 116]) = false := by rw [e]; decide
  have h8 : (s.toList == [102, 95, 114, 101, 118, 101, 114, 115, 101]) = false := by rw [e]; decide
  have HAR : Hid (fnArity (fnOf s) = 2) := by show _ = _; rw [hs]; rfl
  clear e
  have HRHY := Lib.hid hy
  have HRHX := Lib.hid hx
  have HC : Hid (callV (fnOf s) [x, y] = none) := by show _ = _; rw [hs]; exact call_none fun ht => hk ((takes_kind2 ht).2 (.inl rfl))
  clear hs
  obtain ⟨b, o, cap, fa, fc, ga, gc, rfl, hcap, hx, hy⟩ := arg_two ha
  have HX := Lib.hid hx; have HY := Lib.hid hy
  have HBH := Lib.hid (show RepLG B w [y] (.slice (some ⟨b, o + 4, none⟩) 1 (cap - 1)) from RepLG.behind ha)
  have HFR := Lib.hid (show RepLG B w [x] (.slice (some ⟨b, o, none⟩) 1 cap) from RepLG.front ha 1 (by simp))
  clear ha hx hy
  have HCAP := Lib.hid hcap
  clear hcap
  go_enter Tryd.func6, Tryd.ntmps6
  go_wp2_with fail
  have k1 := boxed_new w (.int .i64 0) (.int .i64 0) (.string ⟨#[]⟩) (.slice none 0 0)
  have b1 := stands_alloc w (.cells #[.int .i64 0, .int .i64 0, .string ⟨#[]⟩, .slice none 0 0] 24)
  generalize w.alloc (.cells #[.int .i64 0, .int .i64 0, .string ⟨#[]⟩, .slice none 0 0] 24) = w1 at *
  have K1 := Lib.hid k1; have B1 := Lib.hid b1
  clear k1 b1
  refine (refArity_any s _).mono ?_
  rintro e w' ⟨rfl, rfl⟩
  rw [HAR.out]
  obtain ⟨q0, q1, q2, q3⟩ := (HX.out.on hB B1.out).cells
  go_wp2_with fail
  refine wp_loop_rounds 4 ?_
  rw [rounds_succ]
  go_wp2_with fail
  refine (refRight_at x B _ _ _ _ _ (hB.up B1.out.size) (HX.out.on hB B1.out).rep).mono ?_
  rw [HRHX.out]
  rintro e w2 ⟨rfl, b⟩
  have B2 := Lib.hid (Below.step B1.out b); have K2 := Lib.hid (K1.out.on b)
  clear b q0 q1 q2 q3 B1 K1
  obtain ⟨q0, q1, q2, q3⟩ := (HY.out.on hB B2.out).cells
  go_wp2_with fail
  rw [rounds_succ]
  go_wp2_with fail
  refine (refRight_at y B _ _ _ _ _ (hB.up B2.out.size) (HY.out.on hB B2.out).rep).mono ?_
  rw [HRHY.out]
  rintro e w3 ⟨rfl, b⟩
  have B3 := Lib.hid (Below.step B2.out b); have K3 := Lib.hid (K2.out.on b)
  clear b q0 q1 q2 q3 B2 K2
  obtain ⟨q0, q1, q2, q3⟩ := (HX.out.on hB B3.out).cells
  have b := stands_alloc w3 (.cells #[.int .i64 x.kind, .int .i64 x.num, .string x.text, .slice fa x.list.length fc] 24)
  have B4 := Lib.hid (Below.step B3.out b); have K4 := Lib.hid (K3.out.on b); have L4 := Lib.hid (boxed_new w3 (.int .i64 x.kind) (.int .i64 x.num) (.string x.text) (.slice fa x.list.length fc))
  clear b
  have zl0 := frozen_of_row _ _ 0 _ _ L4.out
  have zl1 := frozen_of_row _ _ 1 _ _ L4.out
  have zl2 := frozen_of_row _ _ 2 _ _ L4.out
  have zl3 := frozen_of_row _ _ 3 _ _ L4.out
  obtain ⟨r0, r1, r2, r3⟩ := (HY.out.on hB B4.out).cells
  have B5 := Lib.hid (Below.step B3.out (stands_alloc w3 (.cells #[.int .i64 y.kind, .int .i64 y.num, .string y.text, .slice ga y.list.length gc] 24)))
  have K5 := Lib.hid (K3.out.on (stands_alloc w3 (.cells #[.int .i64 y.kind, .int .i64 y.num, .string y.text, .slice ga y.list.length gc] 24)))
  have L5 := Lib.hid (boxed_new w3 (.int .i64 y.kind) (.int .i64 y.num) (.string y.text) (.slice ga y.list.length gc))
  obtain ⟨t0, t1, t2, t3⟩ := K5.out.cells
  have z0 := frozen_of_row _ _ 0 _ _ K5.out
  have z1 := frozen_of_row _ _ 1 _ _ K5.out
  have z2 := frozen_of_row _ _ 2 _ _ K5.out
  have z3 := frozen_of_row _ _ 3 _ _ K5.out
  go_wp2_with fail
  rw [rounds_succ]
  go_wp2_with fail
  refine bodyPost_ret (v := .tuple #[zeroCells, .bool false]) (by simp [results, zeroCells, Tryd.results6, go_sem, t0, t1, t2, t3]) rfl ?_
  rw [HC.out]
  exact ref_none B5.out _ _ _ _

end Go.Proofs.YtaomlkglodeaoaaDoor
