/-
  The document's own Call of one list: rest.
-/
import Derived.Test.YtaomlkglodeaoaaDoorW19
import Derived.Test.YtaomlkglodeaoaaDoorW10
import Derived.Test.YtaomlkglodeaoaaDoorW18
import Derived.Deep.RegionLaw
namespace Go.Proofs.YtaomlkglodeaoaaDoor
open Go.RowKit

set_option maxRecDepth 100000 in
set_option maxHeartbeats 1000000 in
theorem ref_rest2 (s : ByteArray) (z : V) (l : List V) (b o cap lb lo fc : Nat) (B : Nat → Prop) (w : World) (hB : Under B w.heap.size) (hcap : 1 ≤ cap) (hx : ArgAt w B b o (listV (z :: l)) (some ⟨lb, lo, none⟩) fc) (hs : fnOf s = 7) (h : All3 (z :: l)) (hl : ((z :: l) : List V).length ≤ 16) (hfc : 1 < fc) :
    Calls Tryd.prog 6 #[.string s, .slice (some ⟨b, o, none⟩) 1 cap] w (RefPost B (callV (fnOf s) [listV (z :: l)]) w) := by
  have HRHX : Hid (rightV 4 (listV (z :: l)) = true) := right_list h hl
  have HRL : Hid (rightV 4 (listV l) = true) := right_list (fun x hx => h x (List.mem_cons_of_mem _ hx)) (by simp at hl ⊢ <;> omega)
  have e := fn_text (k := 7) (by decide) hs
  have h0 : (s.toList == [102, 95, 99, 111, 110, 115]) = false := by rw [e]; decide
  have h1 : (s.toList == [102, 95, 97, 112, 112, 101, 110, 100]) = false := by rw [e]; decide
  have h2 : (s.toList == [102, 95, 99, 111, 110, 99, 97, 116]) = false := by rw [e]; decide
  have h3 : (s.toList == [102, 95, 109, 101, 109, 98, 101, 114]) = false := by rw [e]; decide
  have h4 : (s.toList == [102, 95, 115, 105, 122, 101]) = false := by rw [e]; decide
  have h5 : (s.toList == [102, 95, 102, 105, 114, 115, 116]) = false := by rw [e]; decide
  have h6 : (s.toList == [102, 95, 108, 97, 115, 116]) = false := by rw [e]; decide
  have h7 : (s.toList == [102, 95, 114, 101, 115, 116]) = true := by rw [e]; decide
  have h8 : (s.toList == [102, 95, 114, 101, 118, 101, 114, 115, 101]) = false := by rw [e]; decide
  have HAR : Hid (fnArity (fnOf s) = 1) := by show _ = _; rw [hs]; rfl
  clear e
  have HC : Hid (callV (fnOf s) [listV (z :: l)] = some (listV l)) := by show _ = _; rw [hs]; exact call_rest' h hl
  clear hs
  simp only [List.length_cons] at hl
  have HBH := Lib.hid (RepLG.behind hx.lst)
  have HX := Lib.hid hx; have HCAP := Lib.hid hcap
  clear hx hcap
  go_enter Tryd.func6, Tryd.ntmps6
  go_wp2_with fail
  have k1 := boxed_new w (.int .i64 0) (.int .i64 0) (.string ⟨#[]⟩) (.slice none 0 0)
  have b1 := stands_alloc w (.cells #[.int .i64 0, .int .i64 0, .string ⟨#[]⟩, .slice none 0 0] 24)
  generalize w.alloc (.cells #[.int .i64 0, .int .i64 0, .string ⟨#[]⟩, .slice none 0 0] 24) = w1 at *
  have K1 := Lib.hid k1; have B1 := Lib.hid b1
  clear k1 b1
  refine (refArity_any s _).mono ?_
  rintro e w' ⟨rfl, rfl⟩
  rw [HAR.out]
  obtain ⟨q0, q1, q2, q3⟩ := (HX.out.on hB B1.out).cellsL
  simp only [List.length_cons] at q3
  go_wp2_with fail
  refine wp_loop_rounds 4 ?_
  rw [rounds_succ]
  go_wp2_with fail
  refine (refRight_at (listV (z :: l)) B _ _ _ _ _ (hB.up B1.out.size) (by have h := (HX.out.on hB B1.out).repL; simp only [List.length_cons] at h; exact h)).mono ?_
  rw [HRHX.out]
  rintro e w2 ⟨rfl, b⟩
  have B2 := Lib.hid (Below.step B1.out b); have K2 := Lib.hid (K1.out.on b)
  clear b q0 q1 q2 q3 B1 K1
  obtain ⟨q0, q1, q2, q3⟩ := (HX.out.on hB B2.out).cellsL
  simp only [List.length_cons] at q3
  have b := stands_alloc w2 (.cells #[.int .i64 4, .int .i64 0, .string ⟨#[]⟩, .slice (some ⟨lb, lo, none⟩) (l.length + 1) fc] 24)
  have B3 := Lib.hid (Below.step B2.out b); have K3 := Lib.hid (K2.out.on b); have L3 := Lib.hid (boxed_new w2 (.int .i64 4) (.int .i64 0) (.string ⟨#[]⟩) (.slice (some ⟨lb, lo, none⟩) (l.length + 1) fc))
  clear b
  obtain ⟨t0, t1, t2, t3⟩ := K3.out.cells
  have z0 := frozen_of_row _ _ 0 _ _ K3.out
  have z1 := frozen_of_row _ _ 1 _ _ K3.out
  have z2 := frozen_of_row _ _ 2 _ _ K3.out
  have z3 := frozen_of_row _ _ 3 _ _ K3.out
  have hne : ((l.length : Int) + 1 == 0) = false := beq_eq_false_iff_ne.2 (by omega)
  have hne2 : (((l.length + 1 : Nat) : Int) == 0) = false := beq_eq_false_iff_ne.2 (by omega)
  go_wp2_with fail
  rw [rounds_succ]
  go_wp2_with fail
  have b := stands_alloc (w2.alloc (.cells #[.int .i64 4, .int .i64 0, .string ⟨#[]⟩, .slice (some ⟨lb, lo, none⟩) (l.length + 1) fc] 24)) (.cells #[.slice (some ⟨lb, lo + 4, none⟩) l.length (fc - 1)] 22)
  have B4 := Lib.hid (Below.step B3.out b); have K4 := Lib.hid (K3.out.on b)
  clear b q0 q1 q2 q3 t0 t1 t2 t3 z0 z1 z2 z3
  refine (list_one_yes HRL.out B _ _ _ (hB.up B4.out.size) (alloc_two _ _ _) (RepLG.on (fun _ h => h) (fun j hj => B4.out.block j (hB.lt j hj)) HBH.out) (by omega)).mono ?_
  rintro e w5 ⟨ra, rn, rc, rfl, hr, b⟩
  have HR := Lib.hid hr; have BB := Lib.hid B4.out.size
  have B5 := Lib.hid (Below.step B4.out b); have K5 := Lib.hid (K4.out.on b)
  clear b hr
  obtain ⟨t0, t1, t2, t3⟩ := K5.out.cells
  have z0 := frozen_of_row _ _ 0 _ _ K5.out
  have z1 := frozen_of_row _ _ 1 _ _ K5.out
  have z2 := frozen_of_row _ _ 2 _ _ K5.out
  have z3 := frozen_of_row _ _ 3 _ _ K5.out
  go_wp2_with fail
  refine bodyPost_ret (v := .tuple #[.agg #[.int .i64 4, .int .i64 0, .string ⟨#[]⟩, .slice ra rn rc], .bool true]) (by simp [results, Tryd.results6, go_sem, t0, t1, t2, t3]) rfl ?_
  rw [HC.out]
  exact ref_some hB B5.out (rep_list (RepLG.on (fun j hj => by have := BB.out; rcases hj with h | h; exact .inl h; exact .inr ⟨by omega, h.2⟩) (fun _ _ => rfl) HR.out)) _ _ _ _

set_option maxRecDepth 100000 in
set_option maxHeartbeats 1000000 in
theorem ref_rest1 (s : ByteArray) (z : V) (b o cap lb lo : Nat) (B : Nat → Prop) (w : World) (hB : Under B w.heap.size) (hcap : 1 ≤ cap) (hx : ArgAt w B b o (listV [z]) (some ⟨lb, lo, none⟩) 1) (hs : fnOf s = 7) (h : All3 [z]) (hl : ([z] : List V).length ≤ 16) :
    Calls Tryd.prog 6 #[.string s, .slice (some ⟨b, o, none⟩) 1 cap] w (RefPost B (callV (fnOf s) [listV [z]]) w) := by
  have HRHX : Hid (rightV 4 (listV [z]) = true) := right_list h hl
  have HRL : Hid (rightV 4 (listV ([] : List V)) = true) := right_list (fun x hx => h x (List.mem_cons_of_mem _ hx)) (by simp at hl ⊢ <;> omega)
  have e := fn_text (k := 7) (by decide) hs
  have h0 : (s.toList == [102, 95, 99, 111, 110, 115]) = false := by rw [e]; decide
  have h1 : (s.toList == [102, 95, 97, 112, 112, 101, 110, 100]) = false := by rw [e]; decide
  have h2 : (s.toList == [102, 95, 99, 111, 110, 99, 97, 116]) = false := by rw [e]; decide
  have h3 : (s.toList == [102, 95, 109, 101, 109, 98, 101, 114]) = false := by rw [e]; decide
  have h4 : (s.toList == [102, 95, 115, 105, 122, 101]) = false := by rw [e]; decide
  have h5 : (s.toList == [102, 95, 102, 105, 114, 115, 116]) = false := by rw [e]; decide
  have h6 : (s.toList == [102, 95, 108, 97, 115, 116]) = false := by rw [e]; decide
  have h7 : (s.toList == [102, 95, 114, 101, 115, 116]) = true := by rw [e]; decide
  have h8 : (s.toList == [102, 95, 114, 101, 118, 101, 114, 115, 101]) = false := by rw [e]; decide
  have HAR : Hid (fnArity (fnOf s) = 1) := by show _ = _; rw [hs]; rfl
  clear e
  have HC : Hid (callV (fnOf s) [listV [z]] = some (listV ([] : List V))) := by show _ = _; rw [hs]; exact call_rest' h hl
  clear hs
  simp only [List.length_cons] at hl
  clear hl h
  have HX := Lib.hid hx; have HCAP := Lib.hid hcap
  clear hx hcap
  go_enter Tryd.func6, Tryd.ntmps6
  go_wp2_with fail
  have k1 := boxed_new w (.int .i64 0) (.int .i64 0) (.string ⟨#[]⟩) (.slice none 0 0)
  have b1 := stands_alloc w (.cells #[.int .i64 0, .int .i64 0, .string ⟨#[]⟩, .slice none 0 0] 24)
  generalize w.alloc (.cells #[.int .i64 0, .int .i64 0, .string ⟨#[]⟩, .slice none 0 0] 24) = w1 at *
  have K1 := Lib.hid k1; have B1 := Lib.hid b1
  clear k1 b1
  refine (refArity_any s _).mono ?_
  rintro e w' ⟨rfl, rfl⟩
  rw [HAR.out]
  obtain ⟨q0, q1, q2, q3⟩ := (HX.out.on hB B1.out).cellsL
  simp only [List.length_cons, List.length_nil, Nat.zero_add] at q3
  go_wp2_with fail
  refine wp_loop_rounds 4 ?_
  rw [rounds_succ]
  go_wp2_with fail
  refine (refRight_at (listV [z]) B _ _ _ _ _ (hB.up B1.out.size) (by have h := (HX.out.on hB B1.out).repL; simp only [List.length_cons, List.length_nil, Nat.zero_add] at h; exact h)).mono ?_
  rw [HRHX.out]
  rintro e w2 ⟨rfl, b⟩
  have B2 := Lib.hid (Below.step B1.out b); have K2 := Lib.hid (K1.out.on b)
  clear b q0 q1 q2 q3 B1 K1
  obtain ⟨q0, q1, q2, q3⟩ := (HX.out.on hB B2.out).cellsL
  simp only [List.length_cons, List.length_nil, Nat.zero_add] at q3
  have b := stands_alloc w2 (.cells #[.int .i64 4, .int .i64 0, .string ⟨#[]⟩, .slice (some ⟨lb, lo, none⟩) 1 1] 24)
  have B3 := Lib.hid (Below.step B2.out b); have K3 := Lib.hid (K2.out.on b); have L3 := Lib.hid (boxed_new w2 (.int .i64 4) (.int .i64 0) (.string ⟨#[]⟩) (.slice (some ⟨lb, lo, none⟩) 1 1))
  clear b
  obtain ⟨t0, t1, t2, t3⟩ := K3.out.cells
  have z0 := frozen_of_row _ _ 0 _ _ K3.out
  have z1 := frozen_of_row _ _ 1 _ _ K3.out
  have z2 := frozen_of_row _ _ 2 _ _ K3.out
  have z3 := frozen_of_row _ _ 3 _ _ K3.out
  go_wp2_with fail
  rw [rounds_succ]
  go_wp2_with fail
  have b := stands_alloc (w2.alloc (.cells #[.int .i64 4, .int .i64 0, .string ⟨#[]⟩, .slice (some ⟨lb, lo, none⟩) 1 1] 24)) (.cells #[.slice (some ⟨lb, lo, none⟩) 0 0] 22)
  have B4 := Lib.hid (Below.step B3.out b); have K4 := Lib.hid (K3.out.on b)
  clear b q0 q1 q2 q3 t0 t1 t2 t3 z0 z1 z2 z3
  refine (list_one_yes HRL.out B _ _ _ (hB.up B4.out.size) (alloc_two _ _ _) ⟨_, 0, 0, 0, rfl, Nat.zero_le _, by simp, fun h => by omega, fun h => by simp at h, fun i hi => by simp at hi⟩ (by simp)).mono ?_
  rintro e w5 ⟨ra, rn, rc, rfl, hr, b⟩
  have HR := Lib.hid hr; have BB := Lib.hid B4.out.size
  have B5 := Lib.hid (Below.step B4.out b); have K5 := Lib.hid (K4.out.on b)
  clear b hr
  obtain ⟨t0, t1, t2, t3⟩ := K5.out.cells
  have z0 := frozen_of_row _ _ 0 _ _ K5.out
  have z1 := frozen_of_row _ _ 1 _ _ K5.out
  have z2 := frozen_of_row _ _ 2 _ _ K5.out
  have z3 := frozen_of_row _ _ 3 _ _ K5.out
  go_wp2_with fail
  refine bodyPost_ret (v := .tuple #[.agg #[.int .i64 4, .int .i64 0, .string ⟨#[]⟩, .slice ra rn rc], .bool true]) (by simp [results, Tryd.results6, go_sem, t0, t1, t2, t3]) rfl ?_
  rw [HC.out]
  exact ref_some hB B5.out (rep_list (RepLG.on (fun j hj => by have := BB.out; rcases hj with h | h; exact .inl h; exact .inr ⟨by omega, h.2⟩) (fun _ _ => rfl) HR.out)) _ _ _ _

end Go.Proofs.YtaomlkglodeaoaaDoor

/-
  'append' of one value just laid, onto a slice of the call's own.
-/
namespace Go.Proofs.YtaomlkglodeaoaaDoor
open Go.RowKit

theorem snoc_run {B : Nat → Prop} {base lb : Nat} {w : World} {L X : List V} {v : Value} {z : V} {za : Option Addr} {zc : Nat} (hX : X = L ++ [z]) (hl : OwnL (fun b => B b) w base L v) (hB : Under B base) (hbase : base ≤ w.heap.size) (hz : RepG B w z (.int .i64 z.kind) (.int .i64 z.num) (.string z.text) (.slice za z.list.length zc))
    (hlit : w.heap[lb]? = some (.cells #[.int .i64 z.kind, .int .i64 z.num, .string z.text, .slice za z.list.length zc] 24 (0, 0))) (hlen : L.length ≤ 1000) :
    ∃ (a : Option Addr) (c : Nat) (w' : World), (Builtin.append_ #[22, 22] 22 #[v, .slice (some ⟨lb, 0, none⟩) 1 1]).run Tryd.prog w = .ok (.slice a X.length c) w' ∧ OwnL (fun b => B b) w' base X (.slice a X.length c) ∧ Below base w w' := by
  subst hX
  obtain ⟨i0, hi, hz0, hz1, hz2⟩ := info_parts infoValue
  obtain ⟨xs, hown, hrow⟩ := id hl
  have hnews : ∀ j u, [Value.int .i64 z.kind, .int .i64 z.num, .string z.text, .slice za z.list.length zc][j]? = some u → w.cell? ((⟨lb, 0, none⟩ : Addr).add j) = some u := by
    intro j u hj
    rw [add_lit', Nat.zero_add]
    have hj4 : j < 4 := by have := (List.getElem?_eq_some_iff.1 hj).1; simpa using this
    refine cell_of_block' hlit _ ?_
    match j, hj4, hj with
    | 0, _, hj => simpa using hj
    | 1, _, hj => simpa using hj
    | 2, _, hj => simpa using hj
    | 3, _, hj => simpa using hj
  obtain ⟨v', w', hrun, h1, h2, _, h5⟩ := run_append_own_at (P := Tryd.prog) w base 22 22 24 i0 _ 4 56 Tryd.underlying22 hi hz0 hz1 hz2 rfl (by decide) v L.length xs hown ⟨lb, 0, none⟩ 1 1 [.int .i64 z.kind, .int .i64 z.num, .string z.text, .slice za z.list.length zc] rfl hnews
    (fun u hu => by simp at hu; rcases hu with rfl | rfl | rfl | rfl <;> rfl) (by unfold maxLen; omega) (by omega) hbase
  have ho := OwnL.snoc (S' := fun b => B b) hrow hown.1 hz h1 h2 (fun k hk => ⟨hk, Nat.lt_of_lt_of_le (hB.lt k hk) hbase, fun e => by have := (OwnL.lies hl k e).1; have := hB.lt k hk; omega⟩)
  obtain ⟨a, c, rfl⟩ := own_slice ho
  exact ⟨a, c, w', hrun, ho, ⟨h2.os, h2.tape, h2.output, h2.size, fun k hk => h2.block k (by omega) (fun e => by have := (OwnL.lies hl k e.symm).1; omega)⟩⟩

end Go.Proofs.YtaomlkglodeaoaaDoor

/-
  The document's own Call of one list: reverse.
-/
namespace Go.Proofs.YtaomlkglodeaoaaDoor
open Go.RowKit

set_option maxRecDepth 100000 in
set_option maxHeartbeats 1000000 in
theorem ref_reverse (s : ByteArray) (l : List V) (B : Nat → Prop) (w : World) (a : Value) (hB : Under B w.heap.size) (ha : RepLG B w [listV l] a) (hs : fnOf s = 8) (h : All3 l) (hl : l.length ≤ 16) :
    Calls Tryd.prog 6 #[.string s, a] w (RefPost B (callV (fnOf s) [listV l]) w) := by
  have e := fn_text (k := 8) (by decide) hs
  have h0 : (s.toList == [102, 95, 99, 111, 110, 115]) = false := by rw [e]; decide
  have h1 : (s.toList == [102, 95, 97, 112, 112, 101, 110, 100]) = false := by rw [e]; decide
  have h2 : (s.toList == [102, 95, 99, 111, 110, 99, 97, 116]) = false := by rw [e]; decide
  have h3 : (s.toList == [102, 95, 109, 101, 109, 98, 101, 114]) = false := by rw [e]; decide
  have h4 : (s.toList == [102, 95, 115, 105, 122, 101]) = false := by rw [e]; decide
  have h5 : (s.toList == [102, 95, 102, 105, 114, 115, 116]) = false := by rw [e]; decide
  have h6 : (s.toList == [102, 95, 108, 97, 115, 116]) = false := by rw [e]; decide
  have h7 : (s.toList == [102, 95, 114, 101, 115, 116]) = false := by rw [e]; decide
  have h8 : (s.toList == [102, 95, 114, 101, 118, 101, 114, 115, 101]) = true := by rw [e]; decide
  have HAR : Hid (fnArity (fnOf s) = 1) := by show _ = _; rw [hs]; rfl
  clear e
  have HRHX : Hid (rightV 4 (listV l) = true) := right_list h hl
  have HC : Hid (callV (fnOf s) [listV l] = some (listV l.reverse)) := by show _ = _; rw [hs]; exact call_reverse h hl
  clear hs
  obtain ⟨b, o, cap, fa, fc, rfl, hcap, hx⟩ := arg_one ha
  have HX := Lib.hid hx
  clear ha hx
  have HCAP := Lib.hid hcap
  clear hcap
  go_enter Tryd.func6, Tryd.ntmps6
  go_wp2_with fail
  have k1 := boxed_new w (.int .i64 0) (.int .i64 0) (.string ⟨#[]⟩) (.slice none 0 0)
  have b1 := stands_alloc w (.cells #[.int .i64 0, .int .i64 0, .string ⟨#[]⟩, .slice none 0 0] 24)
  generalize w.alloc (.cells #[.int .i64 0, .int .i64 0, .string ⟨#[]⟩, .slice none 0 0] 24) = w1 at *
  have K1 := Lib.hid k1; have B1 := Lib.hid b1
  clear k1 b1
  refine (refArity_any s _).mono ?_
  rintro e w' ⟨rfl, rfl⟩
  rw [HAR.out]
  obtain ⟨q0, q1, q2, q3⟩ := (HX.out.on hB B1.out).cellsL
  go_wp2_with fail
  refine wp_loop_rounds 4 ?_
  rw [rounds_succ]
  go_wp2_with fail
  refine (refRight_at (listV l) B _ _ _ _ _ (hB.up B1.out.size) (HX.out.on hB B1.out).repL).mono ?_
  rw [HRHX.out]
  rintro e w2 ⟨rfl, b⟩
  have B2 := Lib.hid (Below.step B1.out b); have K2 := Lib.hid (K1.out.on b)
  clear b q0 q1 q2 q3 B1 K1
  obtain ⟨q0, q1, q2, q3⟩ := (HX.out.on hB B2.out).cellsL
  have b := stands_alloc w2 (.cells #[.int .i64 4, .int .i64 0, .string ⟨#[]⟩, .slice fa l.length fc] 24)
  have B3 := Lib.hid (Below.step B2.out b); have K3 := Lib.hid (K2.out.on b); have L3 := Lib.hid (boxed_new w2 (.int .i64 4) (.int .i64 0) (.string ⟨#[]⟩) (.slice fa l.length fc))
  clear b
  have hk2 := K2.out.lt
  go_wp2_with fail
  rw [rounds_succ]
  go_wp2_with fail
  have s3 := World.size_alloc w2 (.cells #[.int .i64 4, .int .i64 0, .string ⟨#[]⟩, .slice fa l.length fc] 24)
  generalize (w2.alloc (.cells #[.int .i64 4, .int .i64 0, .string ⟨#[]⟩, .slice fa l.length fc] 24)) = w3 at *
  generalize w2.heap.size = bl at *
  have v4 := boxed_new w3 (.int .i64 4) (.int .i64 0) (.string ⟨#[]⟩) (.slice none 0 0)
  have b := stands_alloc w3 (.cells #[.int .i64 4, .int .i64 0, .string ⟨#[]⟩, .slice none 0 0] 24)
  have s4 := World.size_alloc w3 (.cells #[.int .i64 4, .int .i64 0, .string ⟨#[]⟩, .slice none 0 0] 24)
  generalize w3.alloc (.cells #[.int .i64 4, .int .i64 0, .string ⟨#[]⟩, .slice none 0 0] 24) = w4 at *
  rw [s3] at v4 s4
  have B4 := Lib.hid (Below.step B3.out b); have K4 := Lib.hid (K3.out.on b); have L4 := Lib.hid (L3.out.on b)
  have V4 := Lib.hid v4; have S4 := Lib.hid s4; have HK2 := Lib.hid hk2
  have HE4 := Lib.hid HX.out
  have HLL := Lib.hid hl
  clear b v4 s4 s3 q0 q1 q2 q3 hk2 h B3 K3 L3
  go_loopw [12] (fun i wr => ∃ kk : Nat, kk ≤ l.length ∧ i = .int .i64 ((l.length : Int) - 1 - (kk : Int)) ∧ ∃ (va : Option Addr) (vn vc : Nat), Hid (Boxed wr (bl + 1) (.int .i64 4) (.int .i64 0) (.string ⟨#[]⟩) (.slice va vn vc)) ∧ Hid (OwnL (fun b => B b) wr (bl + 1 + 1) (l.reverse.take kk) (.slice va vn vc)) ∧ Hid (Below (bl + 1) w4 wr)) (fun i _ => (intOf i + 1).toNat)
  case atStart => exact ⟨0, Nat.zero_le _, by congr 1; omega, none, 0, 0, V4, Lib.hid (OwnL.nil _ _ _), Lib.hid (Below.refl _ _)⟩
  case round =>
    obtain ⟨kk, hkk, rfl, va, vn, vc, HV, HO, HB⟩ := hrel
    have hsr : bl + 1 + 1 ≤ wr.heap.size := by have := HB.out.size; have := S4.out; omega
    have BR := Lib.hid (B4.out.trans (HB.out.mono (by have := HK2.out; omega)))
    have KR : Hid (Boxed wr w.heap.size (.int .i64 0) (.int .i64 0) (.string ⟨#[]⟩) (.slice none 0 0)) := (HB.out.block _ (by have := HK2.out; omega)).trans K4.out
    have LR : Hid (Boxed wr bl (.int .i64 4) (.int .i64 0) (.string ⟨#[]⟩) (.slice fa l.length fc)) := (HB.out.block _ (by omega)).trans L4.out
    by_cases hlt : kk < l.length
    · obtain ⟨j, hj⟩ : ∃ j : Nat, (l.length : Int) - 1 - (kk : Int) = (j : Int) := ⟨l.length - 1 - kk, by omega⟩
      have hjl : j < l.length := by omega
      obtain ⟨-, -, lb, lo, za, zc, hfa, -, y0, y1, y2, y3, yy⟩ := RepLG.at (HX.out.on hB BR.out).lst j hjl
      subst hfa
      have hxs : l.reverse.take (kk + 1) = l.reverse.take kk ++ [l[j]] := by
        rw [List.take_succ_eq_append_getElem (by simpa using hlt), List.getElem_reverse]
        congr 2
        have e : l.length - 1 - kk = j := by omega
        simp [e]
      rw [hj]
      have HJ := Lib.hid hj
      generalize l[j] = z at *
      have hba := stands_alloc wr (.cells #[.int .i64 z.kind, .int .i64 z.num, .string z.text, .slice za z.list.length zc] 24)
      have hbw := Below.drew hba
      have VA := Lib.hid (HV.out.on hba); have VAD := Lib.hid (HV.out.on hbw)
      obtain ⟨xa, xc, xn, w6, hrun, ho6, hb6⟩ : ∃ (a : Option Addr) (c n : Nat) (w6 : World), (Builtin.append_ #[22, 22] 22 #[.slice va vn vc, .slice (some ⟨wr.heap.size, 0, none⟩) 1 1]).run Tryd.prog (wr.alloc (.cells #[.int .i64 z.kind, .int .i64 z.num, .string z.text, .slice za z.list.length zc] 24)).drew = .ok (.slice a n c) w6 ∧ OwnL (fun b => B b) w6 (bl + 1 + 1) (l.reverse.take (kk + 1)) (.slice a n c) ∧ Below (bl + 1 + 1) (wr.alloc (.cells #[.int .i64 z.kind, .int .i64 z.num, .string z.text, .slice za z.list.length zc] 24)).drew w6 := by
        obtain ⟨a, c, w6, h1, h2, h3⟩ := snoc_run (B := B) (lb := wr.heap.size) (w := (wr.alloc (.cells #[.int .i64 z.kind, .int .i64 z.num, .string z.text, .slice za z.list.length zc] 24)).drew) hxs (HO.out.stands (S' := fun b => B b) (fun k hk => ⟨hk, Nat.lt_of_lt_of_le (hB.lt k hk) BR.out.size⟩) hbw) (hB.up (by have := HK2.out; omega)) (by have := hbw.size; omega) (RepG.on (fun _ h => h) (fun k hk => hbw.block k ((hB.up BR.out.size).lt k hk)) _ yy) (alloc_new' _ _) (by rw [List.length_take]; omega)
        exact ⟨a, c, _, w6, h1, h2, h3⟩
      have HRUN := Lib.hid hrun; have HO6 := Lib.hid ho6
      have V6 : Hid (Boxed w6 (bl + 1) (.int .i64 4) (.int .i64 0) (.string ⟨#[]⟩) (.slice va vn vc)) := (hb6.block _ (by omega)).trans VAD.out
      have BB6 := Lib.hid ((HB.out.trans (hbw.mono (show bl + 1 ≤ wr.heap.size by omega))).trans (hb6.mono (by omega)))
      have p3 := HV.out.cells.2.2.2; have p3a := VA.out.cells.2.2.2; have p36 := V6.out.cells.2.2.2
      have z3 := frozen_of_row _ _ 3 _ _ V6.out
      have l3 := LR.out.cells.2.2.2
      have hj16 : j < 16 := by have := HLL.out; omega
      clear hrun ho6 hb6 hbw hba yy hxs hj hsr BR KR LR hl
      go_wp2_with fail
      go_region_law (first | (refine step_append_by rfl _ _ _ rfl rfl rfl HRUN.out ?_))
      all_goals
        have V7 : Hid (Boxed (w6.setCell ⟨bl + 1, 3, none⟩ (.slice xa xn xc)) (bl + 1) (.int .i64 4) (.int .i64 0) (.string ⟨#[]⟩) (.slice xa xn xc)) := heap_setCell_same _ _ _ _ _ _ V6.out
        have O7 := Lib.hid (own_far HO6.out (hB.up (by have := HK2.out; omega)) (p := ⟨bl + 1, 3, none⟩) (hB.up (by have := HK2.out; show w.heap.size ≤ bl + 1; omega)) (Nat.lt_succ_self _) (.slice xa xn xc))
        have B7 := Lib.hid (BB6.out.setCell (p := ⟨bl + 1, 3, none⟩) (by simp) (.slice xa xn xc))
        clear V6 HO6 BB6 p3 p3a p36 z3 l3 HRUN y0 y1 y2 y3
        go_wp2_with fail
        go_roundw
        case rel => exact ⟨kk + 1, by omega, by have := HJ.out; congr 1; omega, xa, xn, xc, V7, O7, B7⟩
        case measure => first | (simp [intOf]; done) | (simp [intOf]; omega)
    · have hke : kk = l.length := by omega
      rw [show (l.length : Int) - 1 - (kk : Int) = -1 by omega]
      have htk : l.reverse.take kk = l.reverse := by rw [List.take_of_length_le (by rw [List.length_reverse]; omega)]
      rw [htk] at HO
      have HREV := Lib.hid (OwnL.rep HO.out (S' := fun k => B k ∨ (w.heap.size < k ∧ k < wr.heap.size)) (fun k hk => .inl hk) (fun g h1 h2 => .inr ⟨by have := HK2.out; omega, h2⟩) (by have := HLL.out; rw [List.length_reverse]; omega))
      obtain ⟨p0, p1, p2, p3⟩ := HV.out.cells
      obtain ⟨t0, t1, t2, t3⟩ := KR.out.cells
      have z0 := frozen_of_row _ _ 0 _ _ KR.out
      have z1 := frozen_of_row _ _ 1 _ _ KR.out
      have z2 := frozen_of_row _ _ 2 _ _ KR.out
      have z3 := frozen_of_row _ _ 3 _ _ KR.out
      clear hke htk hlt hsr HO HV KR LR HB
      go_wp2_with fail
      refine bodyPost_ret (v := .tuple #[.agg #[.int .i64 4, .int .i64 0, .string ⟨#[]⟩, .slice va vn vc], .bool true]) (by simp [results, Tryd.results6, go_sem, t0, t1, t2, t3]) rfl ?_
      rw [HC.out]
      exact ref_some hB BR.out (rep_list HREV.out) _ _ _ _

end Go.Proofs.YtaomlkglodeaoaaDoor
