/-
  BindAll, BindGrow
-/
import Derived.Test.YtbkligcfllakeaaKE12
import Derived.Laws.MakeOwn
import Derived.ArgAppend
namespace Go.Proofs.Ytbkligcfllakeaa
open Go.RowKit
theorem tell_enters (k : Int) (args : Array Value) (w : World) : Sem.run Try.prog (callFunc (tellId k) args) w = .ok (.enter (tellId k) args) w := by
 unfold tellId
 split
 ·kernel_rfl
 ·split
  ·kernel_rfl
  ·split
   ·kernel_rfl
   ·split
    ·kernel_rfl
    ·kernel_rfl
theorem tell_any (t : Tm) (h : EvalAllAt t.args) (E : List Bd) (S : Nat → Prop) (w : World) (a c0 c1 c2 c3 c4 c5 c6 : Value) (hS : ∀ k, S k → k < w.heap.size) (hE : RepBs S w E a) (ht : RepM S w t c0 c1 c2 c3 c4 c5 c6) :
  Calls Try.prog (tellId t.kind) #[a, .agg #[c0, c1, c2, c3, c4, c5, c6]] w (EvPost S (evalM E t) w) := by
 rw [evalM_eq];unfold tellId
 by_cases h1 : t.kind = 1
 ·rw [if_pos h1, if_pos h1]; exact variable_tells t E S w a _ _ _ _ _ _ _ hS hE ht
 ·rw [if_neg h1, if_neg h1]
  by_cases h2 : t.kind = 2
  ·rw [if_pos h2, if_pos h2]; exact value_tells t E S w a _ _ _ _ _ _ _ hS hE ht
  ·rw [if_neg h2, if_neg h2]
   by_cases h3 : t.kind = 3
   ·rw [if_pos h3, if_pos h3]; exact call_tells t h E S w a _ _ _ _ _ _ _ hS hE ht _ rfl
   ·rw [if_neg h3, if_neg h3]
    by_cases h4 : t.kind = 4
    ·rw [if_pos h4, if_pos h4]; exact op_tells t h E S w a _ _ _ _ _ _ _ hS hE ht _ rfl
    ·rw [if_neg h4, if_neg h4]; exact nothing_tells t E S w a _ _ _ _ _ _ _ hS hE ht
set_option maxRecDepth 100000 in
set_option maxHeartbeats 1000000 in
theorem eval_of (t : Tm) (h : EvalAllAt t.args) : EvalAt t := by
 intro E S w a c0 c1 c2 c3 c4 c5 c6 hS hE ht;have HE := Lib.hid hE; have HS := Lib.hid hS; have HT := Lib.hid ht; have HH := Lib.hid h
 obtain ⟨ea, ec, rfl⟩ := SlG.form hE;obtain ⟨fa, fc, xa, xc, rfl, rfl, rfl, rfl, rfl, rfl, rfl⟩ := ht.form;clear hE hS ht h;have hen := tell_enters t.kind;go_enter Try.func48, Try.ntmps48
 go_upto_region 1 with fail
 have m1 := alloc_new' w (.cells #[.int .i64 t.kind, .string t.name, .int .i64 t.val.kind, .int .i64 t.val.num, .string t.val.text, .slice fa t.val.list.length fc, .slice xa t.args.length xc] 29);have d1 := below_alloc w (.cells #[.int .i64 t.kind, .string t.name, .int .i64 t.val.kind, .int .i64 t.val.num, .string t.val.text, .slice fa t.val.list.length fc, .slice xa t.args.length xc] 29);have s1 := World.size_alloc w (.cells #[.int .i64 t.kind, .string t.name, .int .i64 t.val.kind, .int .i64 t.val.num, .string t.val.text, .slice fa t.val.list.length fc, .slice xa t.args.length xc] 29);generalize w.alloc (.cells #[.int .i64 t.kind, .string t.name, .int .i64 t.val.kind, .int .i64 t.val.num, .string t.val.text, .slice fa t.val.list.length fc, .slice xa t.args.length xc] 29) = w1 at *;have x2 := boxed_new w1 (.int .i64 0) (.int .i64 0) (.string ⟨#[]⟩) (.slice none 0 0);have d2 := below_alloc w1 (.cells #[.int .i64 0, .int .i64 0, .string ⟨#[]⟩, .slice none 0 0] 27);have s2 := World.size_alloc w1 (.cells #[.int .i64 0, .int .i64 0, .string ⟨#[]⟩, .slice none 0 0] 27);generalize w1.alloc (.cells #[.int .i64 0, .int .i64 0, .string ⟨#[]⟩, .slice none 0 0] 27) = w2 at *;have M2 : Hid (w2.heap[w.heap.size]? = some (.cells #[.int .i64 t.kind, .string t.name, .int .i64 t.val.kind, .int .i64 t.val.num, .string t.val.text, .slice fa t.val.list.length fc, .slice xa t.args.length xc] 29 (0, 0))) := (d2.block _ (by omega)).trans m1;rw [s1] at x2 s2;have B2 := Lib.hid (Below.step d1 d2);have S2 : Hid (w2.heap.size = w.heap.size + 1 + 1) := s2;have X2 := Lib.hid x2;obtain ⟨bk, hbk⟩ : ∃ bk, w.heap.size + 1 = bk := ⟨_, rfl⟩;have HBK : Hid (w.heap.size + 1 = bk) := hbk;rw [hbk] at X2
 try rw [s1]
 try rw [hbk]
 have HE2 : Hid (RepBs S w2 E (.slice ea E.length ec)) := RepBs.on (fun _ h => h) (fun k hk => B2.out.block k (HS.out k hk)) HE.out;have HT2 : Hid (RepM S w2 t (.int .i64 t.kind) (.string t.name) (.int .i64 t.val.kind) (.int .i64 t.val.num) (.string t.val.text) (.slice fa t.val.list.length fc) (.slice xa t.args.length xc)) := RepM.on (fun _ h => h) (fun k hk => B2.out.block k (HS.out k hk)) t HT.out;have HS2 : Hid (∀ k, S k → k < w2.heap.size) := fun k hk => Nat.lt_of_lt_of_le (HS.out k hk) B2.out.size
 clear m1 d1 s1 x2 d2 s2 hbk;have q0 := cell_of_block' (i := 0) M2.out _ rfl;have q1 := cell_of_block' (i := 1) M2.out _ rfl;have q2 := cell_of_block' (i := 2) M2.out _ rfl;have q3 := cell_of_block' (i := 3) M2.out _ rfl;have q4 := cell_of_block' (i := 4) M2.out _ rfl;have q5 := cell_of_block' (i := 5) M2.out _ rfl;have q6 := cell_of_block' (i := 6) M2.out _ rfl;go_wp2_with fail
 refine (teller_any t.kind ea E.length ec w2).mono ?_;rintro e w3 ⟨rfl, rfl⟩;have HTA := Lib.hid (tell_any t HH.out E S w2 (.slice ea E.length ec) _ _ _ _ _ _ _ HS2.out HE2.out HT2.out);generalize tellId t.kind = tid at *;go_wp2_with fail
 refine HTA.out.mono ?_;rintro e w3 ⟨y0, y1, y2, y3, rfl, hr, hb⟩;have XE := Lib.hid (X2.out.on hb);have BE := Lib.hid (Below.step B2.out hb);have HR := Lib.hid hr;clear hr hb q0 q1 q2 q3 q4 q5 q6 HTA hen;generalize evalM E t = r at *;obtain ⟨ya, yc, rfl, rfl, rfl, rfl⟩ := HR.out.form;generalize hy : r.getD zeroV = y at *;obtain ⟨r0, r1, r2, r3⟩ := XE.out.cells;have z0 := frozen_of_row w3 _ 0 _ _ XE.out;have z1 := frozen_of_row w3 _ 1 _ _ XE.out;have z2 := frozen_of_row w3 _ 2 _ _ XE.out;have z3 := frozen_of_row w3 _ 3 _ _ XE.out;go_wp2_with fail
 refine bodyPost_ret (v := .tuple #[.agg #[.int .i64 y.kind, .int .i64 y.num, .string y.text, .slice ya y.list.length yc], .bool r.isSome]) (by simp [results, Try.results48, go_sem, r0, r1, r2, r3]) rfl ?_;have hfin := tell_end (w2 := w2) (b := bk) HS.out (by have := HBK.out; omega) (by have := HBK.out; have := S2.out; omega) (by have := S2.out; omega) BE.out (HR.out) (.int .i64 y.kind) (.int .i64 y.num) (.string y.text) (.slice ya y.list.length yc);exact ⟨_, _, _, _, rfl, by rw [hy]; exact hfin.1, hfin.2⟩
theorem make_vs (w : World) (n : Nat) (h : n * 56 ≤ 140737488355328) : ∃ w', (Instr.makeSlice 22 (.int .i64 0) (.int .i64 (n : Int))).run Try.prog w = .ok (.slice (some ⟨w.heap.size, 0, none⟩) 0 n) w' ∧
  (∀ (S : Nat → Prop), MineS kdV S w' w.heap.size [] (.slice (some ⟨w.heap.size, 0, none⟩) 0 n)) ∧ Below w.heap.size w w' := by
 obtain ⟨i0, z, hi, hz0, hz1, hz2, hz3⟩ := kdV.info;have hb : i0.bytes * n ≤ 281474976710656 := by rw [hz2]; show 56 * n ≤ _; omega
 obtain ⟨w', h1, h2, h3⟩ := run_make_own (P := Try.prog) w w.heap.size 22 27 i0 z kdV.n kdV.und hi hz0 hz1 .i64 .i64 n hb (by unfold maxLen; omega) (Nat.le_refl _);refine ⟨w', h1, fun S => ⟨[], h2, fun i hi => by simp at hi⟩, ⟨h3.os, h3.tape, h3.output, h3.size, fun k hk => h3.block k hk (by simp)⟩⟩
theorem evalL_take (E : List Bd) (l : List Tm) {k : Nat} (h : k < l.length) : evalL E (l.take (k + 1)) = match evalL E (l.take k) with | none => none | some m => match evalM E l[k] with | none => none | some x => some (m ++ [x]) := by
 rw [List.take_succ_eq_append_getElem h];exact evalL_snoc E _ _
set_option maxRecDepth 100000 in
set_option maxHeartbeats 2000000 in
theorem evalAll_of (l : List Tm) (h : ∀ t ∈ l, EvalAt t) : EvalAllAt l := by
 intro E S w a v hS hE hl;have HE := Lib.hid hE; have HS := Lib.hid hS; have HL := Lib.hid hl; have HH := Lib.hid h
 have hby : l.length * 104 ≤ 140737488355328 := SlG.bytes hl;obtain ⟨ea, ec, rfl⟩ := SlG.form hE;obtain ⟨ga, gc, rfl⟩ := SlG.form hl;clear hE hS hl h;obtain ⟨w0, hmk, hown, hb0⟩ := make_vs w l.length (by omega);have HOW := Lib.hid hown; have HB0 := Lib.hid hb0
 have HBY := Lib.hid hby;clear hown hb0;go_enter Try.func102, Try.ntmps102
 go_upto_region 3 with fail
 clear hmk;go_loopw [6, 16] (fun ov iv wr => ∃ (k : Nat) (m : List V), k ≤ l.length ∧ iv = .int .i64 (k : Int) ∧ Hid (evalL E (l.take k) = some m) ∧ Hid (MineS kdV S wr w.heap.size m ov) ∧ Hid (Below w.heap.size w wr)) (fun _ iv _ => l.length - (intOf iv).toNat)
 case atStart => exact ⟨0, [], Nat.zero_le _, rfl, evalL_nil E, HOW.out S, HB0⟩
 case round =>
  obtain ⟨k, m, hk, rfl, hev, hm, hb⟩ := hrel
  by_cases hlt : k < l.length
  ·obtain ⟨-, -, lb, lo, fa, fc, xa, xc, hga, hlb, g0, g1, g2, g3, g4, g5, g6, g⟩ := RepMs.at HL.out k hlt
   have hlw : lb < w.heap.size := HS.out lb hlb;replace g0 := (hb.out.cell (p := ⟨lb, lo + k * 7, none⟩) hlw).trans g0;replace g1 := (hb.out.cell (p := ⟨lb, lo + k * 7 + 1, none⟩) hlw).trans g1;replace g2 := (hb.out.cell (p := ⟨lb, lo + k * 7 + 2, none⟩) hlw).trans g2;replace g3 := (hb.out.cell (p := ⟨lb, lo + k * 7 + 3, none⟩) hlw).trans g3;replace g4 := (hb.out.cell (p := ⟨lb, lo + k * 7 + 4, none⟩) hlw).trans g4;replace g5 := (hb.out.cell (p := ⟨lb, lo + k * 7 + 5, none⟩) hlw).trans g5;replace g6 := (hb.out.cell (p := ⟨lb, lo + k * 7 + 6, none⟩) hlw).trans g6;have hk1 : (0 : Int) ≤ (k : Int) := Int.natCast_nonneg k;have hk2 : (k : Int) < (l.length : Int) := by omega
   have HTA := Lib.hid (HH.out l[k] (List.getElem_mem hlt));have HTK := Lib.hid (evalL_take E l hlt);have HKL := Lib.hid hlt
   have HLM : Hid (m.length = k) := by
    have := evalL_len E _ _ hev.out
    show _ = _; rw [this, List.length_take]; omega
   have HG : Hid (RepM S wr l[k] (.int .i64 l[k].kind) (.string l[k].name) (.int .i64 l[k].val.kind) (.int .i64 l[k].val.num) (.string l[k].val.text) (.slice fa l[k].val.list.length fc) (.slice xa l[k].args.length xc)) := RepM.on (fun _ h => h) (fun b hb' => hb.out.block b (HS.out b hb')) _ g;subst hga;clear g hlb hlw;generalize l[k] = t at *;clear hk hlt;have m1 := alloc_new' wr (.cells #[.int .i64 t.kind, .string t.name, .int .i64 t.val.kind, .int .i64 t.val.num, .string t.val.text, .slice fa t.val.list.length fc, .slice xa t.args.length xc] 29);have d1 := below_alloc wr (.cells #[.int .i64 t.kind, .string t.name, .int .i64 t.val.kind, .int .i64 t.val.num, .string t.val.text, .slice fa t.val.list.length fc, .slice xa t.args.length xc] 29);go_upto_region 5 with fail
   clear g0 g1 g2 g3 g4 g5 g6;obtain ⟨kz, hkz⟩ : ∃ kz, wr.heap.size = kz := ⟨_, rfl⟩;have HB1 := Lib.hid (Below.step hb.out d1);have HM1 := Lib.hid (hm.out.on d1);have HG1 : Hid (RepM S (wr.alloc (.cells #[.int .i64 t.kind, .string t.name, .int .i64 t.val.kind, .int .i64 t.val.num, .string t.val.text, .slice fa t.val.list.length fc, .slice xa t.args.length xc] 29)) t (.int .i64 t.kind) (.string t.name) (.int .i64 t.val.kind) (.int .i64 t.val.num) (.string t.val.text) (.slice fa t.val.list.length fc) (.slice xa t.args.length xc)) := RepM.on (fun _ h => h) (fun b hb' => d1.block b (Nat.lt_of_lt_of_le (HS.out b hb') hb.out.size)) t HG.out;rw [hkz] at m1 ⊢;clear hkz d1 hb hm HG;generalize wr.alloc (.cells #[.int .i64 t.kind, .string t.name, .int .i64 t.val.kind, .int .i64 t.val.num, .string t.val.text, .slice fa t.val.list.length fc, .slice xa t.args.length xc] 29) = w1 at *;have q0 := cell_of_block' (i := 0) m1 _ rfl;have q1 := cell_of_block' (i := 1) m1 _ rfl;have q2 := cell_of_block' (i := 2) m1 _ rfl;have q3 := cell_of_block' (i := 3) m1 _ rfl;have q4 := cell_of_block' (i := 4) m1 _ rfl;have q5 := cell_of_block' (i := 5) m1 _ rfl;have q6 := cell_of_block' (i := 6) m1 _ rfl;clear m1;have HE1 : Hid (RepBs S w1 E (.slice ea E.length ec)) := RepBs.on (fun _ h => h) (fun b hb' => HB1.out.block b (HS.out b hb')) HE.out;go_wp2_with fail
   refine (HTA.out E S w1 _ _ _ _ _ _ _ _ (fun b hb' => Nat.lt_of_lt_of_le (HS.out b hb') HB1.out.size) HE1.out HG1.out).mono ?_;rintro e w2 ⟨y0, y1, y2, y3, rfl, hr, hb⟩;have HB2 := Lib.hid (Below.step HB1.out hb);have HM2 := Lib.hid (HM1.out.on hb);have HR := Lib.hid hr;have HSZ := Lib.hid hb.size;have HSW : Hid (w.heap.size ≤ w1.heap.size) := HB1.out.size;have HLO : Hid (∀ j, u6.ownBlock = some j → w.heap.size ≤ j ∧ j < w1.heap.size) := fun j hj => HM1.out.lies j hj
   clear hr hb q0 q1 q2 q3 q4 q5 q6 HTA HE1 HG1 HB1 HM1;obtain ⟨r, hr⟩ : ∃ r, evalM E t = r := ⟨_, rfl⟩;rw [hr] at HR HTK ⊢;clear hr;obtain ⟨ya, yc, rfl, rfl, rfl, rfl⟩ := HR.out.form;rcases r with _ | y
   ·have HN : Hid (evalL E l = none) := evalL_none E l (k + 1) (by rw [HTK.out, hev.out])
    go_wp2_with fail
    refine bodyPost_ret (v := .tuple #[.slice none 0 0, .bool false]) (by simp [results, Try.results102, go_sem]) rfl ?_;exact ⟨Below.step HB2.out (below_alloc w2 _), .inl ⟨HN.out, rfl⟩⟩
   ·have HN : Hid (evalL E (l.take (k + 1)) = some (m ++ [y])) := by show _ = _; rw [HTK.out, hev.out]
    simp only [Option.getD_some] at HR ⊢
    have mA := alloc_new' w2 (.cells #[.int .i64 y.kind, .int .i64 y.num, .string y.text, .slice ya y.list.length yc] 27);have dA := below_alloc w2 (.cells #[.int .i64 y.kind, .int .i64 y.num, .string y.text, .slice ya y.list.length yc] 27);go_upto_region 8 with fail
    obtain ⟨kq, hkq⟩ : ∃ kq, w2.heap.size = kq := ⟨_, rfl⟩;have HB3 := Lib.hid (Below.step HB2.out dA);have HM3 := Lib.hid (HM2.out.on dA);have HR3 : Hid (RepG (fun k => S k ∨ (w1.heap.size ≤ k ∧ k < kq)) (w2.alloc (.cells #[.int .i64 y.kind, .int .i64 y.num, .string y.text, .slice ya y.list.length yc] 27)) y (.int .i64 y.kind) (.int .i64 y.num) (.string y.text) (.slice ya y.list.length yc)) := RepG.on (fun b hb' => by rw [← hkq]; exact hb') (fun b hb' => dA.block b (by rcases hb' with hb' | hb'; have h1 := HS.out b hb'; have h2 := HB2.out.size; omega; exact hb'.2)) _ HR.out;rw [hkq] at mA ⊢;have HKQ : Hid (w1.heap.size ≤ kq) := by show _ ≤ _; rw [← hkq]; exact HSZ.out
    have HS3 : Hid ((w2.alloc (.cells #[.int .i64 y.kind, .int .i64 y.num, .string y.text, .slice ya y.list.length yc] 27)).heap.size = kq + 1) := by show _ = _; rw [World.size_alloc, hkq]
    clear hkq dA HR HM2 HB2 HSZ;generalize w2.alloc (.cells #[.int .i64 y.kind, .int .i64 y.num, .string y.text, .slice ya y.list.length yc] 27) = w3 at *;have p0 := cell_of_block' (i := 0) mA _ rfl;have p1 := cell_of_block' (i := 1) mA _ rfl;have p2 := cell_of_block' (i := 2) mA _ rfl;have p3 := cell_of_block' (i := 3) mA _ rfl;clear mA;have d4 := below_alloc w3 (.cells #[.int .i64 y.kind, .int .i64 y.num, .string y.text, .slice ya y.list.length yc] 27);have hs4 := World.size_alloc w3 (.cells #[.int .i64 y.kind, .int .i64 y.num, .string y.text, .slice ya y.list.length yc] 27)
    have hR : kdV.R (fun b => (S b ∨ w.heap.size ≤ b) ∧ b < (w3.alloc (.cells #[.int .i64 y.kind, .int .i64 y.num, .string y.text, .slice ya y.list.length yc] 27)).heap.size ∧ u6.ownBlock ≠ some b) (w3.alloc (.cells #[.int .i64 y.kind, .int .i64 y.num, .string y.text, .slice ya y.list.length yc] 27)) y (at4v (.int .i64 y.kind) (.int .i64 y.num) (.string y.text) (.slice ya y.list.length yc)) :=
     RepG.on (fun b hb' => by
      have h0 := HS3.out; have h3 := HKQ.out; have h4 := HSW.out
      rcases hb' with hb' | hb'
      ·have h1 := HS.out b hb'
       exact ⟨.inl hb', by omega, fun e => by have := (HLO.out b e).1; omega⟩
      ·exact ⟨.inr (by omega), by omega, fun e => by have := (HLO.out b e).2; omega⟩) (fun b hb' => d4.block b (by
      have h0 := HS3.out; have h3 := HKQ.out; have h4 := HSW.out
      rcases hb' with hb' | hb'
      ·have h1 := HS.out b hb'; omega
      ·omega)) _ HR3.out
    obtain ⟨a6, cap6, w6, hrun, hm6, hg6⟩ := MineS.appendB (HM3.out.on d4) (by have := HB3.out.size; omega) (by show _ * 56 ≤ _; have := HLM.out; have := HKL.out; have := HBY.out; omega) (by have := HLM.out; have := HKL.out; have := HBY.out; omega) (alloc_new' w3 _) (fun j hj => match j, hj with | 0, _ => rfl | 1, _ => rfl | 2, _ => rfl | 3, _ => rfl) hR 22
    have hb6 : Below w.heap.size w w6 := by
     have h3 := Below.step HB3.out d4;exact ⟨hg6.os.trans h3.os, hg6.tape.trans h3.tape, hg6.output.trans h3.output, Nat.le_trans h3.size hg6.size, fun b hb' => (hg6.block b (Nat.lt_of_lt_of_le hb' h3.size) (fun e => by have := (HLO.out b e.symm).1; omega)).trans (h3.block b hb')⟩
    have HRUN := Lib.hid hrun; have HM6 := Lib.hid hm6; have HB6 := Lib.hid hb6
    clear d4 hs4 hR hrun hm6 hg6 hb6 HR3 HM3 HB3;go_wp2_with (at_builtin; refine wpList_append_by rfl _ _ _ rfl rfl rfl HRUN.out ?_)
    go_roundw
    case rel => exact ⟨k + 1, m ++ [y], HKL.out, by go_num, HN, HM6, HB6⟩
    case measure => have := HKL.out; simp [intOf]; omega
  ·have hkk : k = l.length := by omega
   subst hkk;rw [List.take_length] at hev;obtain ⟨oa, oc, rfl⟩ := MineS.form hm.out;go_wp2_with fail
   refine bodyPost_ret (v := .tuple #[.slice oa m.length oc, .bool true]) (by simp [results, Try.results102, go_sem]) rfl ?_;refine ⟨hb.out, .inr ⟨m, _, hev.out, rfl, ?_⟩⟩;have hlen := evalL_len E l m hev.out;have h := MineS.slgB hm.out (by rw [hlen]; show l.length * 56 ≤ _; have := HBY.out; omega);exact lg_of_slg (SlG.on (fun b hb' => hb'.1.imp (fun h => h) (fun h => ⟨h, hb'.2⟩)) (fun _ _ => rfl) (fun x _ c hx => RepG.on (fun b hb' => hb'.1.imp (fun h => h) (fun h => ⟨h, hb'.2⟩)) (fun _ _ => rfl) x hx) h)
theorem evalAt_any (t : Tm) : EvalAt t := eval_of t (evalAll_of t.args (fun x _hx => evalAt_any x))
 termination_by SizeOf.sizeOf t
 decreasing_by
  cases t with
  | mk k s v l =>
   have := List.sizeOf_lt_of_mem _hx;simp only [Tm.args] at this
   simp only [Tm.mk.sizeOf_spec]
   omega
end Go.Proofs.Ytbkligcfllakeaa
namespace Go.Proofs.Ytbkligcfllakeaa
open Go.RowKit
section
variable {α : Type} {K : Kd α} {S : Nat → Prop}
theorem slg_grow {w : World} {L : List α} {y : α} {a : Option Addr} {c b : Nat} {cs : Array Value} {t : TypeId} {fz : Nat × Nat} {f : Nat → Value} (hS : ∀ k, S k → k < w.heap.size) (h : SlG S w K.n K.bytes (K.R S w) L (.slice a L.length c)) (hc : c = L.length)
  (hby : (L.length + 1) * K.bytes ≤ 140737488355328) (h63 : L.length + 1 ≤ 140737488355328)
  (hb : w.heap[b]? = some (.cells cs t fz)) (hn : cs.size = K.n) (hf : ∀ j, j < K.n → cs[j]? = some (f j)) (hR : K.R S w y f) (ty : TypeId) :
  ∃ (a' : Option Addr) (cap : Nat) (w6 : World), (Builtin.append_ #[K.ST, K.ST] ty #[.slice a L.length c, .slice (some ⟨b, 0, none⟩) 1 1]).run Try.prog w = .ok (.slice a' (L.length + 1) cap) w6 ∧ OwnK K S w6 w.heap.size (L ++ [y]) (.slice a' (L.length + 1) cap) ∧ Below w.heap.size w w6 := by
 obtain ⟨i0, z, hi, hz0, hz1, hz2, hz3⟩ := K.info
 have hnews : ∀ j u, cs.toList[j]? = some u → w.cell? ((⟨b, 0, none⟩ : Addr).add j) = some u := fun j u hj => by
  have e : ((⟨b, 0, none⟩ : Addr).add j) = ⟨b, 0 + j, none⟩ := add_lit' _ _ _;rw [e, Nat.zero_add];exact cell_of_block' hb u (by rw [← Array.getElem?_toList]; exact hj)
 have hone : ∀ u ∈ cs.toList, u.oneCell' = true := fun u hu => by
  obtain ⟨j, hj, rfl⟩ := List.getElem_of_mem hu;have hjn : j < K.n := by rw [← hn]; simpa using hj
  have h1 := hf j hjn;have h2 : cs[j]? = some (cs.toList[j]) := by rw [← Array.getElem?_toList]; exact List.getElem?_eq_getElem hj
  rw [Option.some.inj (h2.symm.trans h1)];exact K.one hR j hjn
 have hlen : cs.toList.length = 1 * K.n := by rw [Array.length_toList, hn, Nat.one_mul]
 have fin : ∀ (olds : List Value) (v' : Value) (w6 : World), olds.length = L.length * K.n → (∀ i (h : i < L.length), ∃ g : Nat → Value, (∀ j, j < K.n → olds[i * K.n + j]? = some (g j)) ∧ K.R S w L[i] g) →
   w6.ownsRow w.heap.size K.T K.n v' (L.length + 1) (olds ++ cs.toList) → w.grownBy w6 none → OwnK K S w6 w.heap.size (L ++ [y]) v' ∧ Below w.heap.size w w6 := by
  intro olds v' w6 hol hor hrow hg;have keep : ∀ k, S k → w6.heap[k]? = w.heap[k]? := fun k hk => hg.block k (hS k hk) (by simp)
  refine ⟨⟨olds ++ cs.toList, by rw [List.length_append, List.length_singleton]; exact hrow, fun i hi' => ?_⟩, ⟨hg.os, hg.tape, hg.output, hg.size, fun k hk => hg.block k hk (by simp)⟩⟩
  by_cases hlt : i < L.length
  ·obtain ⟨g, hg1, hg2⟩ := hor i hlt
   refine ⟨g, fun j hj => ?_, by rw [List.getElem_append_left hlt]; exact K.on (fun _ h => h) keep hg2⟩
   have hil : i * K.n + j < olds.length := by
    rw [hol];have : (i + 1) * K.n ≤ L.length * K.n := Nat.mul_le_mul_right _ hlt;rw [Nat.succ_mul] at this; omega
   rw [List.getElem?_append_left hil]; exact hg1 j hj
  ·obtain rfl : i = L.length := by simp at hi'; omega
   refine ⟨f, fun j hj => ?_, by rw [List.getElem_append_right (Nat.le_refl _)]; simpa using K.on (fun _ h => h) keep hR⟩;rw [List.getElem?_append_right (by rw [hol]; omega), hol, show L.length * K.n + j - L.length * K.n = j by omega, Array.getElem?_toList];exact hf j hj
 rcases a with _ | ⟨ab, ao, asp⟩
 ·-- of no address there is no element
  have hL : L = [] := by
   obtain ⟨a', b', o', cap', e, h6, h7, h8, h9, h10⟩ := id h
   cases e
   by_cases hc0 : 0 < c
   ·have := h8 hc0; cases this
   ·exact List.length_eq_zero_iff.1 (by omega)
  subst hL;obtain rfl : c = 0 := hc;obtain ⟨v', w6, hrun, h1, h2, _, h5⟩ := run_append_own_at (P := Try.prog) w w.heap.size K.ST ty K.T i0 z K.n K.bytes K.und hi hz0 hz1 hz2 hz3 K.pos (.slice none 0 0) 0 [] (World.ownsRow_nil _ _ _ _) ⟨b, 0, none⟩ 1 1 cs.toList hlen hnews hone (by unfold maxLen; omega) (by simpa using hby) (Nat.le_refl _);obtain ⟨ho, hB⟩ := fin [] v' w6 (by simp) (fun i h => by simp at h) (by simpa using h1) h2;obtain ⟨a, cap, rfl⟩ := OwnK.form ho;exact ⟨a, cap, w6, hrun, ho, hB⟩
 ·have hsp : asp = none ∨ L = [] := by
   obtain ⟨a', b', o', cap', e, h6, h7, h8, h9, h10⟩ := id h
   cases e
   by_cases hc0 : 0 < c
   ·have := h8 hc0
    injection this with e; injection e with e1 e2 e3
    exact .inl e3
   ·exact .inr (List.length_eq_zero_iff.1 (by omega))
  have main : ∀ (olds : List Value), olds.length = L.length * K.n → (∀ j u, olds[j]? = some u → w.cell? ((⟨ab, ao, asp⟩ : Addr).add j) = some u) → (∀ i (h : i < L.length), ∃ g : Nat → Value, (∀ j, j < K.n → olds[i * K.n + j]? = some (g j)) ∧ K.R S w L[i] g) →
    ∃ (a' : Option Addr) (cap : Nat) (w6 : World), (Builtin.append_ #[K.ST, K.ST] ty #[.slice (some ⟨ab, ao, asp⟩) L.length c, .slice (some ⟨b, 0, none⟩) 1 1]).run Try.prog w = .ok (.slice a' (L.length + 1) cap) w6 ∧ OwnK K S w6 w.heap.size (L ++ [y]) (.slice a' (L.length + 1) cap) ∧ Below w.heap.size w w6 := by
   intro olds h1 h2 h3;obtain ⟨v', w', hrun, r1, r2⟩ := run_append_arg_grows (P := Try.prog) w K.ST ty K.T i0 z K.n K.bytes K.und hi hz0 hz1 hz2 hz3 K.pos ⟨ab, ao, asp⟩ L.length c olds h1 h2 ⟨b, 0, none⟩ 1 1 cs.toList hlen hnews (by omega) (by unfold maxLen; omega) hby;obtain ⟨ho, hB⟩ := fin olds v' w' h1 h3 r1 r2;obtain ⟨a, cap, rfl⟩ := OwnK.form ho;rw [List.length_append, List.length_singleton] at hrun ho;exact ⟨a, cap, w', hrun, ho, hB⟩
  rcases hsp with rfl | rfl
  ·obtain ⟨-, f2, ys, f3, f4, f5, f6⟩ := SlG.flat K.pos h
   exact main ys f3 (fun j u hu => by rw [add_lit']; exact f4 j u hu) f5
  ·exact main [] (by simp) (fun j u hu => by simp at hu) (fun i h => by simp at h)
theorem OwnK.more {w : World} {B b : Nat} {L : List α} {lv : Value} {y : α} {cs : Array Value} {t : TypeId} {fz : Nat × Nat} {f : Nat → Value} (h : OwnK K S w B L lv) (hB : B ≤ w.heap.size) (hS : ∀ k, S k → k < B)
  (hby : (L.length + 1) * K.bytes ≤ 140737488355328) (h63 : L.length + 1 ≤ 140737488355328)
  (hb : w.heap[b]? = some (.cells cs t fz)) (hf : ∀ j, j < K.n → cs[j]? = some (f j)) (hR : K.R S w y f) (ty : TypeId) :
  ∃ (a' : Option Addr) (cap : Nat) (w6 : World), (Builtin.append_ #[K.ST, K.ST] ty #[lv, .slice (some ⟨b, 0, none⟩) 1 1]).run Try.prog w = .ok (.slice a' (L.length + 1) cap) w6 ∧ OwnK K S w6 B (L ++ [y]) (.slice a' (L.length + 1) cap) ∧ Below B w w6 := by
 obtain ⟨i0, z, hi, hz0, hz1, hz2, hz3⟩ := K.info;have hSS : ∀ k, S k → k < w.heap.size ∧ lv.ownBlock ≠ some k := fun k hk => ⟨Nat.lt_of_lt_of_le (hS k hk) hB, fun e => by have := (OwnK.lies h k e).1; have := hS k hk; omega⟩
 have hlies := OwnK.lies h;obtain ⟨xs, hrow, hr⟩ := h;have keep : ∀ w6 : World, w.grownBy w6 lv.ownBlock → ∀ k, S k → w6.heap[k]? = w.heap[k]? := fun w6 hg k hk => hg.block k (hSS k hk).1 (fun e => (hSS k hk).2 e.symm)
 have hn : K.n ≤ cs.size := by
  rcases Nat.lt_or_ge cs.size K.n with hlt | hge
  ·have := hf cs.size hlt; rw [Array.getElem?_eq_none (Nat.le_refl _)] at this; cases this
  ·exact hge
 have hys : ∀ j u, (cs.toList.take K.n)[j]? = some u → j < K.n ∧ cs[j]? = some u := fun j u hj => by
  rw [List.getElem?_take] at hj
  split at hj
  ·rename_i hlt; exact ⟨hlt, by rw [← Array.getElem?_toList]; exact hj⟩
  ·cases hj
 have hyl : (cs.toList.take K.n).length = 1 * K.n := by rw [List.length_take, Array.length_toList]; omega
 obtain ⟨v', w6, hrun, h1, h2, _, h5⟩ := run_append_own_at (P := Try.prog) w B K.ST ty K.T i0 z K.n K.bytes K.und hi hz0 hz1 hz2 hz3 K.pos lv L.length xs hrow ⟨b, 0, none⟩ 1 1 (cs.toList.take K.n) hyl
  (fun j u hj => by
   have e : ((⟨b, 0, none⟩ : Addr).add j) = ⟨b, 0 + j, none⟩ := add_lit' _ _ _;rw [e, Nat.zero_add]
   exact cell_of_block' hb u (hys j u hj).2)
  (fun u hu => by
   obtain ⟨j, hj, rfl⟩ := List.getElem_of_mem hu;obtain ⟨hj1, hj2⟩ := hys j _ (List.getElem?_eq_getElem hj);rw [Option.some.inj (hj2.symm.trans (hf j hj1))]
   exact K.one hR j hj1) (by unfold maxLen; omega) hby hB
 have ho : OwnK K S w6 B (L ++ [y]) v' := by
  refine ⟨xs ++ cs.toList.take K.n, by rw [List.length_append]; exact h1, fun i hi' => ?_⟩
  by_cases hlt : i < L.length
  ·obtain ⟨c', hc', hR'⟩ := hr i hlt
   refine ⟨c', fun j hj => ?_, by rw [List.getElem_append_left hlt]; exact K.on (fun _ h => h) (keep w6 h2) hR'⟩
   have hil : i * K.n + j < xs.length := by
    rw [hrow.1];have : (i + 1) * K.n ≤ L.length * K.n := Nat.mul_le_mul_right _ hlt;rw [Nat.succ_mul] at this; omega
   rw [List.getElem?_append_left hil]; exact hc' j hj
  ·obtain rfl : i = L.length := by simp at hi'; omega
   refine ⟨f, fun j hj => ?_, by rw [List.getElem_append_right (Nat.le_refl _)]; simpa using K.on (fun _ h => h) (keep w6 h2) hR⟩;rw [List.getElem?_append_right (by rw [hrow.1]; omega), hrow.1, show L.length * K.n + j - L.length * K.n = j by omega, List.getElem?_take, if_pos hj, Array.getElem?_toList];exact hf j hj
 obtain ⟨a, cap, rfl⟩ := OwnK.form ho;rw [List.length_append, List.length_singleton] at hrun ho;exact ⟨a, cap, w6, hrun, ho, ⟨h2.os, h2.tape, h2.output, h2.size, fun k hk => h2.block k (by omega) (fun e => by have := (hlies k e.symm).1; omega)⟩⟩
theorem OwnK.slgS {w : World} {B : Nat} {l : List α} {v : Value} (h : OwnK K S w B l v) (hby : l.length * K.bytes ≤ 140737488355328) : SlG (fun b => S b ∨ (B ≤ b ∧ b < w.heap.size)) w K.n K.bytes (K.R (fun b => S b ∨ (B ≤ b ∧ b < w.heap.size)) w) l v := by
 obtain ⟨xs, ⟨hlen, hown⟩, hr⟩ := h;rcases hown with ⟨rfl, hn⟩ | ⟨g, cap, cur, rfl, hbg, hh, hnc, hcm, hcs, htk⟩
 ·obtain rfl : l = [] := List.length_eq_zero_iff.1 hn
  exact ⟨none, 0, 0, 0, rfl, Nat.le_refl _, by simp, fun h => by omega, fun h => by simp at h, fun i hi => by simp at hi⟩
 ·have hgl := (Array.getElem?_eq_some_iff.1 hh).1
  refine ⟨_, g, 0, cap, rfl, hnc, hby, fun _ => rfl, fun _ => .inr ⟨hbg, hgl⟩, fun i hi => ?_⟩;obtain ⟨c, hc, hR⟩ := hr i hi;refine ⟨c, fun j hj => ?_, K.on (fun k hk => .inl hk) (fun _ _ => rfl) hR⟩;have h1 := hc j hj;rw [← htk, List.getElem?_take] at h1
  have hlt : i * K.n + j < l.length * K.n := by
   have : (i + 1) * K.n ≤ l.length * K.n := Nat.mul_le_mul_right _ hi;rw [Nat.succ_mul] at this; omega
  rw [if_pos hlt] at h1;rw [show 0 + i * K.n + j = i * K.n + j by omega];exact cell_of_block' hh _ (by rw [← Array.getElem?_toList]; exact h1)
end
end Go.Proofs.Ytbkligcfllakeaa
