/-
  BindCalls, FitDef, SizeMk, NameOf, FitRight, Order
-/
import Derived.Test.YtbkligcfllakeaaKE14
import Derived.Test.YtbkligcfllakeaaKE11
import Derived.Test.YtbkligcfllakeaaKE09
import Derived.Test.YtbkligcfllakeaaKE06
import Derived.Test.YtbkligcfllakeaaKE04
import Derived.RowKit
namespace Go.Proofs.Ytbkligcfllakeaa
open Go.RowKit
def EvNew (r : Option V) (w : World) (e : Ending) (w' : World) : Prop :=
 ∃ c0 c1 c2 c3, e = .returned (.tuple #[.agg #[c0, c1, c2, c3], .bool r.isSome]) ∧ RepG (fun b => w.heap.size ≤ b ∧ b < w'.heap.size) w' (r.getD zeroV) c0 c1 c2 c3 ∧ Below w.heap.size w w'
def MatchPost (r : Option (List Bd)) (w : World) (e : Ending) (w' : World) : Prop :=
 Below w.heap.size w w' ∧ ((r = none ∧ e = .returned (.tuple #[.slice none 0 0, .bool false])) ∨ ∃ F u, r = some F ∧ e = .returned (.tuple #[u, .bool true]) ∧ RepBs (fun b => w.heap.size ≤ b ∧ b < w'.heap.size) w' F u)
set_option maxRecDepth 100000 in
set_option maxHeartbeats 2000000 in
theorem Eval_any (t : Tm) (E : List Bd) (S : Nat → Prop) (w : World) (a c0 c1 c2 c3 c4 c5 c6 : Value) (hS : ∀ k, S k → k < w.heap.size) (hE : RepBs S w E a) (ht : RepM S w t c0 c1 c2 c3 c4 c5 c6) :
  Calls Try.prog 25 #[.agg #[c0, c1, c2, c3, c4, c5, c6], a] w (EvNew (evalM E t) w) := by
 have HE := Lib.hid hE; have HS := Lib.hid hS; have HT := Lib.hid ht
 obtain ⟨ea, ec, rfl⟩ := SlG.form hE;obtain ⟨fa, fc, xa, xc, rfl, rfl, rfl, rfl, rfl, rfl, rfl⟩ := ht.form;clear hE hS ht;go_enter Try.func25, Try.ntmps25
 go_upto_region 1 with fail
 have m1 := alloc_new' w (.cells #[.int .i64 t.kind, .string t.name, .int .i64 t.val.kind, .int .i64 t.val.num, .string t.val.text, .slice fa t.val.list.length fc, .slice xa t.args.length xc] 29);have d1 := below_alloc w (.cells #[.int .i64 t.kind, .string t.name, .int .i64 t.val.kind, .int .i64 t.val.num, .string t.val.text, .slice fa t.val.list.length fc, .slice xa t.args.length xc] 29);have s1 := World.size_alloc w (.cells #[.int .i64 t.kind, .string t.name, .int .i64 t.val.kind, .int .i64 t.val.num, .string t.val.text, .slice fa t.val.list.length fc, .slice xa t.args.length xc] 29);generalize w.alloc (.cells #[.int .i64 t.kind, .string t.name, .int .i64 t.val.kind, .int .i64 t.val.num, .string t.val.text, .slice fa t.val.list.length fc, .slice xa t.args.length xc] 29) = w1 at *;have x2 := boxed_new w1 (.int .i64 0) (.int .i64 0) (.string ⟨#[]⟩) (.slice none 0 0);have d2 := below_alloc w1 (.cells #[.int .i64 0, .int .i64 0, .string ⟨#[]⟩, .slice none 0 0] 27);have s2 := World.size_alloc w1 (.cells #[.int .i64 0, .int .i64 0, .string ⟨#[]⟩, .slice none 0 0] 27);generalize w1.alloc (.cells #[.int .i64 0, .int .i64 0, .string ⟨#[]⟩, .slice none 0 0] 27) = w2 at *;have M2 : Hid (w2.heap[w.heap.size]? = some (.cells #[.int .i64 t.kind, .string t.name, .int .i64 t.val.kind, .int .i64 t.val.num, .string t.val.text, .slice fa t.val.list.length fc, .slice xa t.args.length xc] 29 (0, 0))) := (d2.block _ (by omega)).trans m1;rw [s1] at x2 s2;have B := Lib.hid (Below.step d1 d2);have HW0 : Hid (w2.heap.size = w.heap.size + 1 + 1) := s2;have X := Lib.hid x2;obtain ⟨bk, hbk⟩ : ∃ bk, w.heap.size + 1 = bk := ⟨_, rfl⟩;have HBK : Hid (w.heap.size ≤ bk ∧ bk < w.heap.size + 1 + 1) := by show _ ∧ _; omega
 rw [hbk] at X
 try rw [s1]
 try rw [hbk]
 have HE2 : Hid (RepBs S w2 E (.slice ea E.length ec)) := RepBs.on (fun _ h => h) (fun k hk => B.out.block k (HS.out k hk)) HE.out;have HT2 : Hid (RepM S w2 t (.int .i64 t.kind) (.string t.name) (.int .i64 t.val.kind) (.int .i64 t.val.num) (.string t.val.text) (.slice fa t.val.list.length fc) (.slice xa t.args.length xc)) := RepM.on (fun _ h => h) (fun k hk => B.out.block k (HS.out k hk)) t HT.out;have HS2 : Hid (∀ k, S k → k < w2.heap.size) := fun k hk => Nat.lt_of_lt_of_le (HS.out k hk) B.out.size
 clear m1 d1 s1 x2 d2 s2 hbk;have q0 := cell_of_block' (i := 0) M2.out _ rfl;have q1 := cell_of_block' (i := 1) M2.out _ rfl;have q2 := cell_of_block' (i := 2) M2.out _ rfl;have q3 := cell_of_block' (i := 3) M2.out _ rfl;have q4 := cell_of_block' (i := 4) M2.out _ rfl;have q5 := cell_of_block' (i := 5) M2.out _ rfl;have q6 := cell_of_block' (i := 6) M2.out _ rfl;go_wp2_with fail
 refine (evalAt_any t E S w2 _ _ _ _ _ _ _ _ HS2.out HE2.out HT2.out).mono ?_;rintro e w3 ⟨y0, y1, y2, y3, rfl, hr, hb⟩;have X3 := Lib.hid (X.out.on hb);have B3 := Lib.hid (Below.step B.out hb);have HR := Lib.hid hr;have HSZ := Lib.hid hb.size;clear hr hb q0 q1 q2 q3 q4 q5 q6;obtain ⟨r, hr⟩ : ∃ r, evalM E t = r := ⟨_, rfl⟩;rw [hr] at HR
 try rw [hr]
 have HRR := Lib.hid hr;clear hr;obtain ⟨ya, yc, rfl, rfl, rfl, rfl⟩ := HR.out.form;generalize hy : r.getD zeroV = y at *;have mA := alloc_new' w3 (.cells #[.int .i64 y.kind, .int .i64 y.num, .string y.text, .slice ya y.list.length yc] 27);have dA := below_alloc w3 (.cells #[.int .i64 y.kind, .int .i64 y.num, .string y.text, .slice ya y.list.length yc] 27);have sA := World.size_alloc w3 (.cells #[.int .i64 y.kind, .int .i64 y.num, .string y.text, .slice ya y.list.length yc] 27);go_upto_region 2 with fail
 obtain ⟨kq, hkq⟩ : ∃ kq, w3.heap.size = kq := ⟨_, rfl⟩;have X4 := Lib.hid (X3.out.on dA);have B4 := Lib.hid (Below.step B3.out dA);have HR4 : Hid (RepG (fun k => S k ∨ (w2.heap.size ≤ k ∧ k < w3.heap.size)) (w3.alloc (.cells #[.int .i64 y.kind, .int .i64 y.num, .string y.text, .slice ya y.list.length yc] 27)) y (.int .i64 y.kind) (.int .i64 y.num) (.string y.text) (.slice ya y.list.length yc)) := RepG.on (fun _ h => h) (fun b hb' => dA.block b (by rcases hb' with hb' | hb'; have h1 := HS.out b hb'; have h2 := B3.out.size; omega; exact hb'.2)) _ HR.out;have HSQ : Hid (∀ k, (S k ∨ (w2.heap.size ≤ k ∧ k < w3.heap.size)) → k < (w3.alloc (.cells #[.int .i64 y.kind, .int .i64 y.num, .string y.text, .slice ya y.list.length yc] 27)).heap.size) := fun k hk => by have h3 := dA.size; rcases hk with hk | hk; have h1 := HS.out k hk; have h2 := B3.out.size; omega; omega
 have HKW : Hid (w.heap.size ≤ w3.heap.size ∧ (w3.alloc (.cells #[.int .i64 y.kind, .int .i64 y.num, .string y.text, .slice ya y.list.length yc] 27)).heap.size = w3.heap.size + 1) := ⟨B3.out.size, sA⟩;rw [hkq] at mA HKW HSQ HR4 HSZ ⊢;clear hkq dA sA X3 B3 HR;generalize w3.alloc (.cells #[.int .i64 y.kind, .int .i64 y.num, .string y.text, .slice ya y.list.length yc] 27) = w4 at *;have p0 := cell_of_block' (i := 0) mA _ rfl;have p1 := cell_of_block' (i := 1) mA _ rfl;have p2 := cell_of_block' (i := 2) mA _ rfl;have p3 := cell_of_block' (i := 3) mA _ rfl;clear mA;go_wp2_with fail
 have hcv := copyV_any y _ w4 (at4v (.int .i64 y.kind) (.int .i64 y.num) (.string y.text) (.slice ya y.list.length yc)) HSQ.out HR4.out;refine hcv.mono ?_;clear hcv;rintro e w5 ⟨vs, rfl, hn, hv, hb⟩
 obtain ⟨v0, v1, v2, v3, rfl⟩ : ∃ v0 v1 v2 v3, vs = [v0, v1, v2, v3] := by
  match vs, (show vs.length = 4 from hn) with
  | [v0, v1, v2, v3], _ => exact ⟨v0, v1, v2, v3, rfl⟩
 have hv' : RepG _ _ y v0 v1 v2 v3 := hv;obtain ⟨na, nc, rfl, rfl, rfl, rfl⟩ := hv'.form;have HV : Hid (RepG (fun b => False ∨ (w4.heap.size ≤ b ∧ b < w5.heap.size)) w5 y (.int .i64 y.kind) (.int .i64 y.num) (.string y.text) (.slice na y.list.length nc)) := RepG.on (fun b hb => .inr hb) (fun _ _ => rfl) _ hv';have X5 := X4.out.on hb;have B5 := Lib.hid (Below.step B4.out hb);clear hn hv hv' hb p0 p1 p2 p3 X4 B4 HR4 HSQ;obtain ⟨r0, r1, r2, r3⟩ := X5.cells;have z0 := frozen_of_row w5 _ 0 _ _ X5;have z1 := frozen_of_row w5 _ 1 _ _ X5;have z2 := frozen_of_row w5 _ 2 _ _ X5;have z3 := frozen_of_row w5 _ 3 _ _ X5;go_wp2_with fail
 refine bodyPost_ret (v := .tuple #[.agg #[.int .i64 y.kind, .int .i64 y.num, .string y.text, .slice na y.list.length nc], .bool r.isSome]) (by simp [results, Try.results25, go_sem, r0, r1, r2, r3]) rfl ?_;have hfin := tell_end (S := fun _ => False) (w2 := w4) (b := bk) (fun k hk => hk.elim) (by have := HBK.out; omega) (by have := HBK.out; have := HKW.out.1; have := HKW.out.2; have := HSZ.out; have := HW0.out; omega) (by have := HKW.out.1; have := HKW.out.2; omega) B5.out HV.out (.int .i64 y.kind) (.int .i64 y.num) (.string y.text) (.slice na y.list.length nc);exact ⟨_, _, _, _, by rw [HRR.out], by rw [HRR.out, hy]; exact RepG.on (fun k hk => hk.elim False.elim (fun h => h)) (fun _ _ => rfl) _ hfin.1, hfin.2⟩
set_option maxRecDepth 100000 in
set_option maxHeartbeats 2000000 in
theorem Lookup_any (E : List Bd) (s : ByteArray) (S : Nat → Prop) (w : World) (a : Value) (hS : ∀ k, S k → k < w.heap.size) (hE : RepBs S w E a) :
  Calls Try.prog 24 #[a, .string s] w (EvNew (lookZ s E) w) := by
 have HE := Lib.hid hE; have HS := Lib.hid hS
 obtain ⟨ea, ec, rfl⟩ := SlG.form hE;clear hE hS;go_enter Try.func24, Try.ntmps24
 go_upto_region 1 with fail
 have x2 := boxed_new w (.int .i64 0) (.int .i64 0) (.string ⟨#[]⟩) (.slice none 0 0);have d2 := below_alloc w (.cells #[.int .i64 0, .int .i64 0, .string ⟨#[]⟩, .slice none 0 0] 27);have s2 := World.size_alloc w (.cells #[.int .i64 0, .int .i64 0, .string ⟨#[]⟩, .slice none 0 0] 27);generalize w.alloc (.cells #[.int .i64 0, .int .i64 0, .string ⟨#[]⟩, .slice none 0 0] 27) = w2 at *;have B := Lib.hid d2;have HW0 : Hid (w2.heap.size = w.heap.size + 1) := s2;have X := Lib.hid x2;obtain ⟨bk, hbk⟩ : ∃ bk, w.heap.size = bk := ⟨_, rfl⟩;have HBK : Hid (w.heap.size ≤ bk ∧ bk < w.heap.size + 1) := by show _ ∧ _; omega
 have HBE : Hid (w.heap.size = bk) := hbk;rw [hbk] at X
 try rw [hbk]
 have HE2 : Hid (RepBs S w2 E (.slice ea E.length ec)) := RepBs.on (fun _ h => h) (fun k hk => B.out.block k (HS.out k hk)) HE.out;have HS2 : Hid (∀ k, S k → k < w2.heap.size) := fun k hk => Nat.lt_of_lt_of_le (HS.out k hk) B.out.size
 clear x2 d2 s2 hbk;go_wp2_with fail
 refine (lookup_any E s S w2 _ HS2.out HE2.out).mono ?_;rintro e w3 ⟨y0, y1, y2, y3, rfl, hr, hb⟩;have X3 := Lib.hid (X.out.on hb);have B3 := Lib.hid (Below.step B.out hb);have HR := Lib.hid hr;have HSZ := Lib.hid hb.size;clear hr hb;obtain ⟨r, hr⟩ : ∃ r, lookZ s E = r := ⟨_, rfl⟩;rw [hr] at HR
 try rw [hr]
 have HRR := Lib.hid hr;clear hr;obtain ⟨ya, yc, rfl, rfl, rfl, rfl⟩ := HR.out.form;generalize hy : r.getD zeroV = y at *;have mA := alloc_new' w3 (.cells #[.int .i64 y.kind, .int .i64 y.num, .string y.text, .slice ya y.list.length yc] 27);have dA := below_alloc w3 (.cells #[.int .i64 y.kind, .int .i64 y.num, .string y.text, .slice ya y.list.length yc] 27);have sA := World.size_alloc w3 (.cells #[.int .i64 y.kind, .int .i64 y.num, .string y.text, .slice ya y.list.length yc] 27);go_upto_region 2 with fail
 obtain ⟨kq, hkq⟩ : ∃ kq, w3.heap.size = kq := ⟨_, rfl⟩;have X4 := Lib.hid (X3.out.on dA);have B4 := Lib.hid (Below.step B3.out dA);have HR4 : Hid (RepG (fun k => S k ∨ (w2.heap.size ≤ k ∧ k < w3.heap.size)) (w3.alloc (.cells #[.int .i64 y.kind, .int .i64 y.num, .string y.text, .slice ya y.list.length yc] 27)) y (.int .i64 y.kind) (.int .i64 y.num) (.string y.text) (.slice ya y.list.length yc)) := RepG.on (fun _ h => h) (fun b hb' => dA.block b (by rcases hb' with hb' | hb'; have h1 := HS.out b hb'; have h2 := B3.out.size; omega; exact hb'.2)) _ HR.out;have HSQ : Hid (∀ k, (S k ∨ (w2.heap.size ≤ k ∧ k < w3.heap.size)) → k < (w3.alloc (.cells #[.int .i64 y.kind, .int .i64 y.num, .string y.text, .slice ya y.list.length yc] 27)).heap.size) := fun k hk => by have h3 := dA.size; rcases hk with hk | hk; have h1 := HS.out k hk; have h2 := B3.out.size; omega; omega
 have HKW : Hid (w.heap.size ≤ w3.heap.size ∧ (w3.alloc (.cells #[.int .i64 y.kind, .int .i64 y.num, .string y.text, .slice ya y.list.length yc] 27)).heap.size = w3.heap.size + 1) := ⟨B3.out.size, sA⟩;rw [hkq] at mA HKW HSQ HR4 HSZ ⊢;clear hkq dA sA X3 B3 HR;generalize w3.alloc (.cells #[.int .i64 y.kind, .int .i64 y.num, .string y.text, .slice ya y.list.length yc] 27) = w4 at *;have p0 := cell_of_block' (i := 0) mA _ rfl;have p1 := cell_of_block' (i := 1) mA _ rfl;have p2 := cell_of_block' (i := 2) mA _ rfl;have p3 := cell_of_block' (i := 3) mA _ rfl;clear mA;go_wp2_with fail
 have hcv := copyV_any y _ w4 (at4v (.int .i64 y.kind) (.int .i64 y.num) (.string y.text) (.slice ya y.list.length yc)) HSQ.out HR4.out;refine hcv.mono ?_;clear hcv;rintro e w5 ⟨vs, rfl, hn, hv, hb⟩
 obtain ⟨v0, v1, v2, v3, rfl⟩ : ∃ v0 v1 v2 v3, vs = [v0, v1, v2, v3] := by
  match vs, (show vs.length = 4 from hn) with
  | [v0, v1, v2, v3], _ => exact ⟨v0, v1, v2, v3, rfl⟩
 have hv' : RepG _ _ y v0 v1 v2 v3 := hv;obtain ⟨na, nc, rfl, rfl, rfl, rfl⟩ := hv'.form;have HV : Hid (RepG (fun b => False ∨ (w4.heap.size ≤ b ∧ b < w5.heap.size)) w5 y (.int .i64 y.kind) (.int .i64 y.num) (.string y.text) (.slice na y.list.length nc)) := RepG.on (fun b hb => .inr hb) (fun _ _ => rfl) _ hv';have X5 := X4.out.on hb;have B5 := Lib.hid (Below.step B4.out hb);clear hn hv hv' hb p0 p1 p2 p3 X4 B4 HR4 HSQ;obtain ⟨r0, r1, r2, r3⟩ := X5.cells;have z0 := frozen_of_row w5 _ 0 _ _ X5;have z1 := frozen_of_row w5 _ 1 _ _ X5;have z2 := frozen_of_row w5 _ 2 _ _ X5;have z3 := frozen_of_row w5 _ 3 _ _ X5;go_wp2_with fail
 refine bodyPost_ret (v := .tuple #[.agg #[.int .i64 y.kind, .int .i64 y.num, .string y.text, .slice na y.list.length nc], .bool r.isSome]) (by simp [results, Try.results24, go_sem, r0, r1, r2, r3]) rfl ?_;have hfin := tell_end (S := fun _ => False) (w2 := w4) (b := bk) (fun k hk => hk.elim) (by have := HBK.out; omega) (by have := HBK.out; have := HKW.out.1; have := HKW.out.2; have := HSZ.out; have := HW0.out; omega) (by have := HKW.out.1; have := HKW.out.2; omega) B5.out HV.out (.int .i64 y.kind) (.int .i64 y.num) (.string y.text) (.slice na y.list.length nc);exact ⟨_, _, _, _, by rw [HRR.out], by rw [HRR.out, hy]; exact RepG.on (fun k hk => hk.elim False.elim (fun h => h)) (fun _ _ => rfl) _ hfin.1, hfin.2⟩
set_option maxRecDepth 100000 in
set_option maxHeartbeats 2000000 in
theorem Match_any (l : List Tm) (m : List V) (E : List Bd) (S : Nat → Prop) (w : World) (a v u : Value) (hS : ∀ k, S k → k < w.heap.size) (hl : RepMs S w l v) (hm : RepLG S w m u) (hE : RepBs S w E a) (hby : (E.length + l.length) * 72 ≤ 140737488355328) :
  Calls Try.prog 11 #[v, u, a] w (MatchPost (matchZ l m E) w) := by
 have HE := Lib.hid hE; have HS := Lib.hid hS; have HL := Lib.hid hl; have HM := Lib.hid hm
 have HBY := Lib.hid hby;obtain ⟨ea, ec, rfl⟩ := SlG.form hE;obtain ⟨ga, gc, rfl⟩ := SlG.form hl;obtain ⟨ma, mc, rfl⟩ := SlG.form (slg_of_lg hm);clear hE hS hl hm hby
 by_cases hlen : l.length = m.length
 ·have HLN := Lib.hid hlen
  have hle : ((l.length : Int) != (m.length : Int)) = false := by simp [hlen]
  clear hlen;go_enter Try.func11, Try.ntmps11
  go_wp2_with fail
  refine (with_any l m E S w _ _ _ HS.out HE.out HL.out HM.out HLN.out HBY.out).mono ?_;rintro e w1 ⟨hb, b1, rfl, hrb⟩;have hwl := (withZ_len (l.zip m) E).2;obtain ⟨ba, bc, rfl⟩ := SlG.form hrb;have B1 := Lib.hid hb; have HRB := Lib.hid hrb
  have HEQ : Hid (matchZ l m E = if fitZ (withZ (l.zip m) E) (l.zip m) = true then some (withZ (l.zip m) E) else none) := by
   show _ = _
   unfold matchZ
   by_cases hf : fitZ (withZ (l.zip m) E) (l.zip m) = true
   ·rw [if_pos ⟨HLN.out, hf⟩, if_pos hf]
   ·rw [if_neg (fun h => hf h.2), if_neg hf]
  clear hb hrb hwl;obtain ⟨F, hF⟩ : ∃ F, withZ (l.zip m) E = F := ⟨_, rfl⟩;rw [hF] at HRB HEQ ⊢;clear hF;have HS1 : Hid (∀ k, (S k ∨ (w.heap.size ≤ k ∧ k < w1.heap.size)) → k < w1.heap.size) := fun k hk => by rcases hk with hk | hk; have h1 := HS.out k hk; have h2 := B1.out.size; omega; exact hk.2
  go_wp2_with fail
  refine (fit9_any l m F (fun k => S k ∨ (w.heap.size ≤ k ∧ k < w1.heap.size)) w1 _ _ _ HS1.out HRB.out (RepMs.on (fun _ h => .inl h) (fun k hk => B1.out.block k (HS.out k hk)) HL.out) (RepLG.on (fun _ h => .inl h) (fun k hk => B1.out.block k (HS.out k hk)) HM.out) HLN.out).mono ?_;rintro e w2 ⟨hb, rfl⟩;have B2 := Lib.hid (Below.step B1.out hb);have HRB2 : Hid (RepBs (fun k => S k ∨ (w.heap.size ≤ k ∧ k < w1.heap.size)) w2 F (.slice ba F.length bc)) := RepBs.on (fun _ h => h) (fun k hk => hb.block k (HS1.out k hk)) HRB.out;have HSQ : Hid (∀ k, (S k ∨ (w.heap.size ≤ k ∧ k < w1.heap.size)) → k < w2.heap.size) := fun k hk => Nat.lt_of_lt_of_le (HS1.out k hk) hb.size
  clear hb HRB HS1;obtain ⟨f, hf⟩ : ∃ f, fitZ F (l.zip m) = f := ⟨_, rfl⟩;rw [hf] at HEQ ⊢;clear hf
  cases f with
  | false =>
   have HN : Hid (matchZ l m E = none) := HEQ.out;go_wp2_with fail
   refine bodyPost_ret (v := .tuple #[.slice none 0 0, .bool false]) (by simp [results, Try.results11, go_sem]) rfl ?_;exact ⟨B2.out, .inl ⟨HN.out, rfl⟩⟩
  | true =>
   have HN : Hid (matchZ l m E = some F) := HEQ.out;go_wp2_with fail
   refine (copyBs_any F _ w2 _ HSQ.out HRB2.out).mono ?_;rintro e w3 ⟨u, rfl, hu, hb⟩;obtain ⟨na, nc, rfl⟩ := SlG.form hu;have HU := Lib.hid hu;have B3 := Lib.hid (Below.step B2.out hb);clear hu hb;go_wp2_with fail
   refine bodyPost_ret (v := .tuple #[.slice na F.length nc, .bool true]) (by simp [results, Try.results11, go_sem]) rfl ?_;exact ⟨B3.out, .inr ⟨F, _, HN.out, rfl, RepBs.on (fun k hk => ⟨Nat.le_trans B2.out.size hk.1, hk.2⟩) (fun _ _ => rfl) HU.out⟩⟩
 ·have hle : ((l.length : Int) != (m.length : Int)) = true := by simp; omega
  have HN : Hid (matchZ l m E = none) := by show _ = _; unfold matchZ; rw [if_neg (fun h => hlen h.1)]
  clear hlen;go_enter Try.func11, Try.ntmps11
  go_wp2_with fail
  refine bodyPost_ret (v := .tuple #[.slice none 0 0, .bool false]) (by simp [results, Try.results11, go_sem]) rfl ?_;exact ⟨Below.refl _ _, .inl ⟨HN.out, rfl⟩⟩
end Go.Proofs.Ytbkligcfllakeaa
namespace Go.Proofs.Ytbkligcfllakeaa
open Go.RowKit
theorem RepG.bounds {S : Nat → Prop} {w : World} {x : V} {c0 c1 c2 c3 : Value} (h : RepG S w x c0 c1 c2 c3) : I64 x.kind ∧ I64 x.num ∧ x.text.size ≤ maxLen := by
 cases x with
 | mk k n s l => exact ⟨(repG_mk.1 h).2.2.2.1, (repG_mk.1 h).2.2.2.2.1, (repG_mk.1 h).2.2.2.2.2.1⟩
def unlist (d : Nat) (x : V) : V := if d ≤ 1 ∧ pickZ x.kind 4 = 3 then .mk 0 x.num x.text x.list else x
def fitV : Nat → V → V
 | 0, x => fitFlat x
 | d + 1, x => if pickZ x.kind 4 = 3 then .mk 4 0 ⟨#[]⟩ ((x.list.take 16).map fun y => fitV d (unlist (d + 1) y)) else fitFlat x
def fitTo (d : Nat) (l : List V) (k : Nat) : List V := (l.take k).map fun y => fitV d (unlist (d + 1) y)
end Go.Proofs.Ytbkligcfllakeaa
namespace Go.Proofs.Ytbkligcfllakeaa
open Go.RowKit
theorem size_mk (l : List UInt8) : (⟨l.toArray⟩ : ByteArray).size = l.length := by
 show l.toArray.size = _
 simp
end Go.Proofs.Ytbkligcfllakeaa
namespace Go.Proofs.Ytbkligcfllakeaa.valueNames
open Go.RowKit
theorem nameByte_ok (i : Nat) (h : 1 ≤ i) (c : UInt8) : okAt i ((nameByte c).toNat : Int) = true := by
 have hi : decide (i = 0) = false := by simp; omega
 by_cases h1 : c.toNat % 37 < 26
 ·simp only [okAt, smallB, nameByte_small c h1, hi, Bool.or_eq_true, decide_eq_true_eq]; omega
 ·by_cases h2 : c.toNat % 37 < 36
  ·simp only [okAt, smallB, digitB, nameByte_digit c h1 h2, hi, Bool.or_eq_true, Bool.and_eq_true, decide_eq_true_eq, Bool.not_false]
   right; refine ⟨trivial, Or.inl ?_⟩; omega
  ·simp [okAt, smallB, digitB, nameByte_low c h1 h2, hi]
theorem ba_get (l : List UInt8) (i : Nat) (_h : i < (⟨l.toArray⟩ : ByteArray).size) (h' : i < l.length) : (⟨l.toArray⟩ : ByteArray)[i] = l[i] := by
 show l.toArray[i] = l[i]
 simp
theorem nameB_list (l : List UInt8) : nameB ⟨l.toArray⟩ = true ↔ (1 ≤ l.length ∧ l.length ≤ 16 ∧ ∀ i (h : i < l.length), okAt i (l[i].toNat : Int) = true) := by
 rw [nameB, decide_eq_true_eq];have hsz := size_mk l
 constructor
 ·rintro ⟨h1, h2, h3⟩
  exact ⟨by omega, by omega, fun i h => by have := h3 i (by omega); rwa [ba_get l i (by omega) h] at this⟩
 ·rintro ⟨h1, h2, h3⟩
  exact ⟨by omega, by omega, fun i h => by rw [ba_get l i h (by omega)]; exact h3 i _⟩
theorem nameOf_ok (s : ByteArray) : ∀ i (h : i < (nameOf s).length), okAt i ((nameOf s)[i].toNat : Int) = true := by
 intro i h
 match i, h with
 | 0, _ => simp [nameOf, okAt, smallB]
 | i + 1, h =>
  have : (nameOf s)[i + 1] = nameByte ((s.data.toList.take 15)[i]'(by simp [nameOf] at h; simp; omega)) := by simp [nameOf]
  rw [this];exact nameByte_ok (i + 1) (by omega) _
theorem name_of (s : ByteArray) : nameB ⟨(nameOf s).toArray⟩ = true :=
 (nameB_list _).2 ⟨by rw [nameOf_length]; omega, by rw [nameOf_length]; omega, nameOf_ok s⟩
end Go.Proofs.Ytbkligcfllakeaa.valueNames
namespace Go.Proofs.Ytbkligcfllakeaa
open Go.RowKit
theorem fitByte_ok (c : UInt8) : okText ((fitByte c).toNat : Int) = true := by
 by_cases h : 32 + c.toNat % 95 = 34 ∨ 32 + c.toNat % 95 = 92
 ·rw [fitByte_blank c h]; decide
 ·rw [fitByte_plain c (fun e => h (Or.inl e)) (fun e => h (Or.inr e))]
  have := Nat.mod_lt c.toNat (show 0 < 95 by omega);simp only [okText, decide_eq_true_eq]
  omega
theorem textOf_ok (s : ByteArray) : textB ⟨(textOf s).toArray⟩ = true := by
 refine textB_true (by rw [size_mk', textOf_length]; omega) (fun i h => ?_);have h' : i < (textOf s).length := by rw [size_mk'] at h; exact h
 rw [valueNames.ba_get _ i h h'];have hr : i < (rawText s).length := by rw [textOf, List.length_map] at h'; exact h'
 have : (textOf s)[i] = fitByte (rawText s)[i] := by simp [textOf]
 rw [this];exact fitByte_ok _
theorem none_empty : (⟨#[]⟩ : ByteArray).toList.isEmpty = true := by rw [isEmpty_size]; rfl
theorem flat_right (d : Nat) (x : V) : rightV d (fitFlat x) = true := by
 obtain ⟨h1, h2⟩ := pickZ_bd x.num 4294967295 (by omega);unfold fitFlat
 split
 ·rw [rightV_mk]
  simp only [baseB, none_empty, List.isEmpty_nil, if_pos, Bool.and_eq_true, decide_eq_true_eq, Bool.true_and]
  omega
 ·split
  ·rw [rightV_mk]; simp [baseB, textOf_ok]
  ·rw [rightV_mk]; simp [baseB, valueNames.name_of]
theorem fit_right : ∀ (d : Nat) (x : V), rightV d (fitV d x) = true
 | 0, x => flat_right 0 x
 | d + 1, x => by
  unfold fitV
  split
  ·rw [rightV_mk]
   have hl : ((x.list.take 16).map fun y => fitV d (unlist (d + 1) y)).length ≤ 16 := by simp; omega
   have ha : (((x.list.take 16).map fun y => fitV d (unlist (d + 1) y)).all (rightV d)) = true := by
    rw [List.all_eq_true];intro y hy;obtain ⟨z, _, rfl⟩ := List.mem_map.1 hy;exact fit_right d _
   simp only [baseB, none_empty, rightL, ha, hl, decide_true]
   simp
  ·exact flat_right _ x
end Go.Proofs.Ytbkligcfllakeaa
namespace Go.Proofs.Ytbkligcfllakeaa
structure Ord3 {α : Type} (f : α → α → Int) (a b c : α) : Prop where
 rng : f a b = -1 ∨ f a b = 0 ∨ f a b = 1
 sym : f b a = - f a b
 eqv : f a b = 0 → f b c = f a c
 lt : f a b < 0 → f b c ≤ 0 → f a c < 0
 gt : 0 < f a b → 0 ≤ f b c → 0 < f a c
theorem ord_int (a b c : Int) : Ord3 Lib.compareInt a b c := by
 unfold Lib.compareInt
 constructor
 ·(repeat' split) <;> first | exact Or.inl rfl | exact Or.inr (Or.inl rfl) | exact Or.inr (Or.inr rfl)
 ·(repeat' split) <;> omega
 ·intro h
  have : a = b := by (repeat' split at h) <;> omega
  subst this; rfl
 ·intro h1 h2; (repeat' split at h1) <;> (repeat' split at h2) <;> (repeat' split) <;> omega
 ·intro h1 h2; (repeat' split at h1) <;> (repeat' split at h2) <;> (repeat' split) <;> omega
def lex {α : Type} (f : α → α → Int) : List α → List α → Int
 | [], [] => 0
 | [], _ :: _ => -1
 | _ :: _, [] => 1
 | x :: l, y :: m => if f x y ≠ 0 then f x y else lex f l m
theorem ord_lex {α : Type} (f : α → α → Int) : ∀ (l : List α), (∀ x, x ∈ l → ∀ y z, Ord3 f x y z) → ∀ m k, Ord3 (lex f) l m k
 | [], _, [], [] => ⟨by simp [lex], by simp [lex], by simp [lex], by simp [lex], by simp [lex]⟩
 | [], _, [], _ :: _ => ⟨by simp [lex], by simp [lex], by simp [lex], by simp [lex], by simp [lex]⟩
 | [], _, _ :: _, [] => ⟨by simp [lex], by simp [lex], by simp [lex], by simp [lex], by simp [lex]⟩
 | [], _, _ :: _, _ :: _ => ⟨by simp [lex], by simp [lex], by simp [lex], by simp [lex], by simp [lex]⟩
 | _ :: _, _, [], [] => ⟨by simp [lex], by simp [lex], by simp [lex], by simp [lex], by simp [lex]⟩
 | _ :: _, _, [], _ :: _ => ⟨by simp [lex], by simp [lex], by simp [lex], by simp [lex], by simp [lex]⟩
 | x :: l, h, y :: m, [] => by
  have h1 := h x (by simp) y x;have h2 := ord_lex f l (fun z hz => h z (by simp [hz])) m [];have r1 := h1.rng; have s1 := h1.sym; have r2 := h2.rng; have s2 := h2.sym
  constructor <;> simp only [lex]
  ·split <;> omega
  ·rw [s1, s2]; split <;> split <;> omega
  ·intro _; trivial
  ·intro _ h; omega
  ·intro _ _; omega
 | x :: l, h, y :: m, z :: k => by
  have h1 := h x (by simp) y z;have h2 := ord_lex f l (fun z hz => h z (by simp [hz])) m k;have hz := h x (by simp) z y;obtain ⟨r1, s1, e1, l1, g1⟩ := h1;obtain ⟨r2, s2, e2, l2, g2⟩ := h2;have rz := hz.rng;have ez := hz.eqv;have lz := hz.lt;have gz := hz.gt
  constructor <;> simp only [lex]
  ·split <;> omega
  ·rw [s1, s2]; split <;> split <;> omega
  ·intro h
   by_cases e : f x y = 0
   ·rw [if_neg (by omega)] at h
    rw [e1 e, e2 h]
   ·rw [if_pos e] at h; omega
  ·intro h h'
   by_cases e : f x y = 0
   ·rw [if_neg (by omega)] at h
    rw [e1 e] at h'
    by_cases e' : f x z = 0
    ·rw [if_neg (by omega)] at h' ⊢; exact l2 h h'
    ·rw [if_pos e'] at h' ⊢; omega
   ·rw [if_pos e] at h
    by_cases e' : f y z = 0
    ·have := l1 h (by omega)
     rw [if_pos (by omega)]; exact this
    ·rw [if_pos e'] at h'
     have := l1 h h';rw [if_pos (by omega)]; exact this
  ·intro h h'
   by_cases e : f x y = 0
   ·rw [if_neg (by omega)] at h
    rw [e1 e] at h'
    by_cases e' : f x z = 0
    ·rw [if_neg (by omega)] at h' ⊢; exact g2 h h'
    ·rw [if_pos e'] at h' ⊢; omega
   ·rw [if_pos e] at h
    by_cases e' : f y z = 0
    ·have := g1 h (by omega)
     rw [if_pos (by omega)]; exact this
    ·rw [if_pos e'] at h'
     have := g1 h h';rw [if_pos (by omega)]; exact this
def cmpByte (a b : UInt8) : Int := Lib.compareInt a.toNat b.toNat
theorem cmpS_lex_aux : ∀ (x y : List UInt8), (if Op.bytesLess x y = true then -1 else if (x == y) = true then 0 else 1) = lex cmpByte x y
 | [], [] => by simp [Op.bytesLess, lex]
 | [], _ :: _ => by simp [Op.bytesLess, lex]
 | _ :: _, [] => by simp [Op.bytesLess, lex]
 | a :: x, b :: y => by
  have ih := cmpS_lex_aux x y;simp only [lex, Op.bytesLess]
  by_cases h1 : a < b
  ·have h1' : a.toNat < b.toNat := by simpa [UInt8.lt_iff_toNat_lt] using h1
   have hc : cmpByte a b = -1 := by unfold cmpByte Lib.compareInt; rw [if_pos (by omega)]
   simp [h1, hc]
  ·have h1' : ¬ a.toNat < b.toNat := by simpa [UInt8.lt_iff_toNat_lt] using h1
   by_cases h2 : a = b
   ·subst h2
    have hc : cmpByte a a = 0 := by unfold cmpByte Lib.compareInt; rw [if_neg (by omega), if_neg (by omega)]
    simp only [h1, decide_false, Bool.false_or, beq_self_eq_true, Bool.true_and, hc, ne_eq, not_true, if_false, List.cons_beq_cons]
    exact ih
   ·have h3 : a.toNat ≠ b.toNat := fun e => h2 (UInt8.toNat_inj.1 e)
    have hc : cmpByte a b = 1 := by unfold cmpByte Lib.compareInt; rw [if_neg (by omega), if_pos (by omega)]
    simp [h1, h2, hc]
theorem cmpS_lex (a b : ByteArray) : cmpS a b = lex cmpByte a.toList b.toList := cmpS_lex_aux _ _
theorem ord_bytes (a b c : ByteArray) : Ord3 cmpS a b c := by
 have h := ord_lex cmpByte a.toList (fun x _ y z => by
  have := ord_int x.toNat y.toNat z.toNat
  exact ⟨this.rng, this.sym, this.eqv, this.lt, this.gt⟩) b.toList c.toList
 constructor <;> simp only [cmpS_lex]
 ·exact h.rng
 ·exact h.sym
 ·exact h.eqv
 ·exact h.lt
 ·exact h.gt
theorem cmpL_lex : ∀ (l m : List V), cmpL l m = lex cmpV l m
 | [], [] => by simp [cmpL, lex]
 | [], _ :: _ => by simp [cmpL, lex]
 | _ :: _, [] => by simp [cmpL, lex]
 | x :: l, y :: m => by simp only [cmpL, lex]; rw [cmpL_lex l m]
theorem cmpV_mk (k n : Int) (s : ByteArray) (l : List V) (k' n' : Int) (s' : ByteArray) (l' : List V) : cmpV (.mk k n s l) (.mk k' n' s' l') =
  if Lib.compareInt k k' ≠ 0 then Lib.compareInt k k' else if k = 1 then Lib.compareInt n n' else if k = 2 ∨ k = 3 then cmpS s s' else if k = 4 then lex cmpV l l' else 0 := by
 rw [cmpV, cmpL_lex]
 by_cases e : k = k'
 ·subst e; simp [Lib.compareInt]
 ·have : Lib.compareInt k k' ≠ 0 := by unfold Lib.compareInt; (repeat' split) <;> omega
  rw [if_pos e, if_pos this]
theorem ord_value (a b c : V) : Ord3 cmpV a b c := by
 match a, b, c with
 | .mk k n s l, .mk k2 n2 s2 l2, .mk k3 n3 s3 l3 =>
 have hl := ord_lex cmpV l (fun x hx y z => ord_value x y z) l2 l3;have hi := ord_int n n2 n3;have hs := ord_bytes s s2 s3;have hk := ord_int k k2 k3
 by_cases e : k = k2
 ·subst e
  have h0 : Lib.compareInt k k = 0 := by simp [Lib.compareInt]
  by_cases e3 : k = k3
  ·subst e3
   by_cases f1 : k = 1
   ·have E : ∀ n s l n' s' l', cmpV (.mk k n s l) (.mk k n' s' l') = Lib.compareInt n n' := fun n s l n' s' l' => by rw [cmpV_mk, if_neg (by omega), if_pos f1]
    constructor <;> simp only [E]
    ·exact hi.rng
    ·exact hi.sym
    ·exact hi.eqv
    ·exact hi.lt
    ·exact hi.gt
   by_cases f2 : k = 2 ∨ k = 3
   ·have E : ∀ n s l n' s' l', cmpV (.mk k n s l) (.mk k n' s' l') = cmpS s s' := fun n s l n' s' l' => by rw [cmpV_mk, if_neg (by omega), if_neg f1, if_pos f2]
    constructor <;> simp only [E]
    ·exact hs.rng
    ·exact hs.sym
    ·exact hs.eqv
    ·exact hs.lt
    ·exact hs.gt
   by_cases f4 : k = 4
   ·have E : ∀ n s l n' s' l', cmpV (.mk k n s l) (.mk k n' s' l') = lex cmpV l l' := fun n s l n' s' l' => by rw [cmpV_mk, if_neg (by omega), if_neg f1, if_neg f2, if_pos f4]
    constructor <;> simp only [E]
    ·exact hl.rng
    ·exact hl.sym
    ·exact hl.eqv
    ·exact hl.lt
    ·exact hl.gt
   ·have E : ∀ n s l n' s' l', cmpV (.mk k n s l) (.mk k n' s' l') = 0 := fun n s l n' s' l' => by rw [cmpV_mk, if_neg (by omega), if_neg f1, if_neg f2, if_neg f4]
    constructor <;> simp only [E] <;> simp
  ·have h3 : Lib.compareInt k k3 ≠ 0 := by unfold Lib.compareInt; (repeat' split) <;> omega
   have r0 : cmpV (.mk k n s l) (.mk k n2 s2 l2) = -1 ∨ cmpV (.mk k n s l) (.mk k n2 s2 l2) = 0 ∨ cmpV (.mk k n s l) (.mk k n2 s2 l2) = 1 := by
    simp only [cmpV_mk, h0, ne_eq, not_true, if_false]
    (repeat' split) <;> first | exact hi.rng | exact hs.rng | exact hl.rng | simp
   refine ⟨r0, ?_, ?_, ?_, ?_⟩
   ·simp only [cmpV_mk, h0, ne_eq, not_true, if_false]
    (repeat' split) <;> first | exact hi.sym | exact hs.sym | exact hl.sym | simp
   ·intro _; simp only [cmpV_mk, h3, ne_eq, not_false_iff, if_true]
   ·intro _ h; rw [cmpV_mk, if_pos h3] at h ⊢; omega
   ·intro _ h; rw [cmpV_mk, if_pos h3] at h ⊢; omega
 ·have h2 : Lib.compareInt k k2 ≠ 0 := by unfold Lib.compareInt; (repeat' split) <;> omega
  have h2' : Lib.compareInt k2 k ≠ 0 := by rw [hk.sym]; omega
  refine ⟨by rw [cmpV_mk, if_pos h2]; exact hk.rng, by rw [cmpV_mk, if_pos h2', cmpV_mk, if_pos h2]; exact hk.sym, ?_, ?_, ?_⟩
  ·intro h; rw [cmpV_mk, if_pos h2] at h; exact absurd h h2
  ·intro h h'
   rw [cmpV_mk, if_pos h2] at h
   by_cases e3 : k2 = k3
   ·subst e3; rw [cmpV_mk, if_pos h2]; exact h
   ·have h3 : Lib.compareInt k2 k3 ≠ 0 := by unfold Lib.compareInt; (repeat' split) <;> omega
    rw [cmpV_mk, if_pos h3] at h';have := hk.lt h h';rw [cmpV_mk, if_pos (by omega)]; exact this
  ·intro h h'
   rw [cmpV_mk, if_pos h2] at h
   by_cases e3 : k2 = k3
   ·subst e3; rw [cmpV_mk, if_pos h2]; exact h
   ·have h3 : Lib.compareInt k2 k3 ≠ 0 := by unfold Lib.compareInt; (repeat' split) <;> omega
    rw [cmpV_mk, if_pos h3] at h';have := hk.gt h h';rw [cmpV_mk, if_pos (by omega)]; exact this
 termination_by SizeOf.sizeOf a
 decreasing_by
  have := List.sizeOf_lt_of_mem hx;simp only [V.mk.sizeOf_spec]
  omega
end Go.Proofs.Ytbkligcfllakeaa
