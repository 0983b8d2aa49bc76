/-
  PickTen, TenRows, GrRight, PickEleven, GrLaw, Open, LawPost, OpenTm, OpenRw
-/
import Derived.Test.YtpnaegohjbaggaaKD19
import Derived.Test.YtpnaegohjbaggaaKD23
import Derived.Test.YtpnaegohjbaggaaKD05
import Derived.Test.YtpnaegohjbaggaaKD08
import Derived.Test.YtpnaegohjbaggaaKD02
import Derived.Test.YtpnaegohjbaggaaKD20
import Derived.Test.YtpnaegohjbaggaaKD22
import Derived.Test.YtpnaegohjbaggaaKD21
import Derived.Test.YtpnaegohjbaggaaKD01
import Derived.Test.YtpnaegohjbaggaaRows
import Derived.Deep.RegionLaw
import Derived.ProofKit
import Derived.Lib.SmallJoins
import Derived.Deep.Slices
import Derived.OpenShut
import Derived.Deep.DeepHandedRow
import Derived.Deep.Strs
import Derived.Laws.IdiomArrays
namespace Go.Proofs.Ytpnaegohjbaggaa
open Go.RowKit
theorem pick10_any (c n : Int) (w : World) (hc : I64 c) (hn : 1 ≤ n) (hn2 : n ≤ 9223372036854775807) :
  Calls Try.prog 33 #[.int .i64 c, .int .i64 n] w fun e w' => e = .returned (.int .i64 (pickZ c n)) ∧ w = w' := by
 obtain ⟨h1, h2⟩ := hc
 by_cases h : c < 0
 ·have HF : Hid (pickZ c n = (-(c + 1)) % n) := by show _ = _; rw [pickZ, if_pos h]
  have h3 : 0 ≤ -(c + 1) := by omega
  have hne : (n == 0) = false := beq_eq_false_iff_ne.2 (by omega);go_enter Try.func33, Try.ntmps33
  go_wp2_with fail
  go_ret
  refine ⟨?_, rfl⟩;rw [HF.out];refine ret_int' ?_;rw [← Int.neg_tmod, Int.tmod_eq_emod_of_nonneg h3]
 ·have HF : Hid (pickZ c n = c % n) := by show _ = _; rw [pickZ, if_neg h]
  have h3 : 0 ≤ c := by omega
  have hne : (n == 0) = false := beq_eq_false_iff_ne.2 (by omega);go_enter Try.func33, Try.ntmps33
  go_wp2_with fail
  go_ret
  refine ⟨?_, rfl⟩;rw [HF.out];rfl
end Go.Proofs.Ytpnaegohjbaggaa
namespace Go.Proofs.Ytpnaegohjbaggaa
open Go.RowKit
def rowZ (x : Rw) : Ro := ⟨(factZ x).name, (factZ x).args, pickZ x.n3 9⟩
def rowsZ (l : List Rw) : List Ro := (l.take 40).map rowZ
theorem RepRw.at {S : Nat → Prop} {w : World} {l : List Rw} {a : Option Addr} {len cap : Nat} (h : RepRws S w l (.slice a len cap)) (i : Nat) (hi : i < l.length) :
  ∃ b o, a = some ⟨b, o, none⟩ ∧ S b ∧ w.cell? ⟨b, o + i * 6, none⟩ = some (.int .i64 l[i].kind) ∧ w.cell? ⟨b, o + i * 6 + 1, none⟩ = some (.int .i64 l[i].name) ∧ w.cell? ⟨b, o + i * 6 + 2, none⟩ = some (.int .i64 l[i].n0) ∧
   w.cell? ⟨b, o + i * 6 + 3, none⟩ = some (.int .i64 l[i].n1) ∧ w.cell? ⟨b, o + i * 6 + 4, none⟩ = some (.int .i64 l[i].n2) ∧ w.cell? ⟨b, o + i * 6 + 5, none⟩ = some (.int .i64 l[i].n3) ∧ RwOk l[i] := by
 obtain ⟨-, -, b, o, h3, h4, c, hc, e0, e1, e2, e3, e4, e5, hok⟩ := SlG.at h i hi;have f0 := hc 0 (by decide); have f1 := hc 1 (by decide); have f2 := hc 2 (by decide); have f3 := hc 3 (by decide); have f4 := hc 4 (by decide); have f5 := hc 5 (by decide)
 rw [e0] at f0; rw [e1] at f1; rw [e2] at f2; rw [e3] at f3; rw [e4] at f4; rw [e5] at f5
 exact ⟨b, o, h3, h4, f0, f1, f2, f3, f4, f5, hok⟩
set_option maxRecDepth 100000 in
set_option maxHeartbeats 4000000 in
theorem rows_any (l : List Rw) (S : Nat → Prop) (w : World) (v : Value) (hS : ∀ k, S k → k < w.heap.size) (h : RepRws S w l v) :
  Calls Try.prog 15 #[v] w fun e w' => Below w.heap.size w w' ∧ ∃ lv, e = .returned lv ∧ MineS kdRo (fun _ => False) w' w.heap.size (rowsZ l) lv := by
 have h63 : l.length * 48 ≤ 140737488355328 := SlG.bytes h;have HL := Lib.hid h; have HS := Lib.hid hS
 obtain ⟨la, lc, rfl⟩ := SlG.form h;clear h hS;go_enter Try.func15, Try.ntmps15
 go_wp2_with fail
 go_loopw [3, 4] (fun ov iv wr => ∃ i : Nat, i ≤ l.length ∧ i ≤ 40 ∧ iv = .int .i64 (i : Int) ∧ Hid (MineS kdRo (fun _ => False) wr w.heap.size ((l.take i).map rowZ) ov) ∧ Hid (Below w.heap.size w wr)) (fun _ iv _ => l.length - (intOf iv).toNat)
 case atStart => exact ⟨0, Nat.zero_le _, by omega, rfl, (by show MineS _ _ _ _ _ _; rw [List.take_zero]; exact MineS.nil _ _), Below.refl _ _⟩
 case round =>
  obtain ⟨i, hi, hi40, rfl, hm, hb⟩ := hrel;obtain ⟨na, nc, hform⟩ := OwnK.form hm.out;rw [List.length_map, List.length_take, Nat.min_eq_left hi] at hform;subst hform
  by_cases hlt : i < l.length ∧ i < 40
  ·obtain ⟨hlt, hlt2⟩ := hlt
   have hLW : RepRws S wr l (.slice la l.length lc) := SlG.on (fun _ h => h) (fun k hk => hb.out.block k (HS.out k hk)) (fun _ _ _ h => h) HL.out;obtain ⟨qb, qo, rfl, hqb, p0, p1, p2, p3, p4, p5, hok⟩ := RepRw.at hLW i hlt;have k1 : decide ((i : Int) < (l.length : Int)) = true := decide_eq_true (by omega);have k2 : decide ((i : Int) < 40) = true := decide_eq_true (by omega);have k3 : decide (i < l.length) = true := decide_eq_true hlt;have k4 : decide (i < 40) = true := decide_eq_true hlt2;have k5 : (0 : Int) ≤ (i : Int) := Int.natCast_nonneg i;have k6 : (i : Int) < (l.length : Int) := by omega
   have k7 : (i : Int) < 40 := by omega
   have HSN : Hid ((l.take (i + 1)).map rowZ = (l.take i).map rowZ ++ [rowZ l[i]]) := by show _ = _; rw [List.take_succ_eq_append_getElem hlt, List.map_append]; rfl
   have HLT : Hid (i < l.length ∧ i < 40) := ⟨hlt, hlt2⟩;have HOK := Lib.hid hok;have HQB : Hid (qb < w.heap.size) := HS.out qb hqb;have HP5 := Lib.hid p5;clear hLW hqb hok hi hi40;generalize l[i] = x at *;clear hlt hlt2;go_wp2_with fail
   refine (fact_any x wr HOK.out).mono ?_;rintro e w2 ⟨sl, rfl, hfa, hb2⟩;obtain ⟨fa, fc, hsl⟩ := SlG.form (slg_of_lg hfa.2.2);subst hsl;have HFA := Lib.hid hfa;have hd2 := below_alloc w2 (.cells #[.string (factZ x).name, .slice fa (factZ x).args.length fc] 65);have hm2 := alloc_new' w2 (.cells #[.string (factZ x).name, .slice fa (factZ x).args.length fc] 65);have HB2 := Lib.hid hb2; have HD2 := Lib.hid hd2
   clear hfa hb2 hd2 p0 p1 p2 p3 p4 p5 k1 k2 k3 k4;go_upto_region 6 with fail
   obtain ⟨bt, hbt⟩ : ∃ b, w2.heap.size = b := ⟨_, rfl⟩;rw [hbt] at hm2 ⊢;have HBT := Lib.hid hbt;clear hbt;generalize w2.alloc (.cells #[.string (factZ x).name, .slice fa (factZ x).args.length fc] 65) = w3 at *;have HB3 : Hid (Below wr.heap.size wr w3) := Below.step HB2.out HD2.out;have hdd : Below w3.heap.size w3 w3.drew := Below.drew (Below.refl _ _);have hd5 := below_alloc w3.drew (.cells #[.string (factZ x).name, .slice fa (factZ x).args.length fc, .int .i64 (pickZ x.n3 9)] 47);have hall : Below wr.heap.size wr (w3.drew.alloc (.cells #[.string (factZ x).name, .slice fa (factZ x).args.length fc, .int .i64 (pickZ x.n3 9)] 47)) := Below.step (Below.step HB3.out hdd) hd5;have hpb := pickZ_bd x.n3 9 (by omega)
   obtain ⟨a6, c6, w6, hrun, hm6, hg6⟩ := MineS.appendB (K := kdRo) (y := rowZ x) (c := fun t => ([.string (factZ x).name, .slice fa (factZ x).args.length fc, .int .i64 (pickZ x.n3 9)] : List Value).getD t undef) (hm.out.on hall) (Nat.le_trans hb.out.size hall.size)
    (by rw [List.length_map, List.length_take]; show _ * 48 ≤ _; have := HLT.out.2; omega) (by rw [List.length_map, List.length_take]; have := HLT.out.2; omega) (alloc_new' w3.drew _)
    (fun j hj => by
     have hj' : j < 3 := hj
     match j, hj' with
     | 0, _ => rfl
     | 1, _ => rfl
     | 2, _ => rfl)
    (show kdRo.R _ _ _ _ from ⟨rfl, HFA.out.2.1, RepLG.on (fun b hb' => ⟨.inr (Nat.le_trans hb.out.size hb'.1), Nat.lt_of_lt_of_le hb'.2 (Nat.le_trans HD2.out.size (Nat.le_trans hdd.size hd5.size)), fun e => by have := (hm.out.lies b e).2; have := hb'.1; omega⟩)
     (fun b hb' => (hd5.block b (Nat.lt_of_lt_of_le hb'.2 (Nat.le_trans HD2.out.size hdd.size))).trans ((hdd.block b (Nat.lt_of_lt_of_le hb'.2 HD2.out.size)).trans (HD2.out.block b hb'.2))) HFA.out.2.2, rfl, by unfold I64; show _ ≤ pickZ x.n3 9 ∧ pickZ x.n3 9 ≤ _; omega⟩) 40
   rw [List.length_map, List.length_take, Nat.min_eq_left (Nat.le_of_lt HLT.out.1)] at hrun hm6;have HRUN := Lib.hid hrun; have HM6 := Lib.hid hm6
   have HB6 : Hid (Below w.heap.size w w6) := by
    have h1 := Below.step hb.out hall;have hlie := hm.out.lies;exact ⟨hg6.os.trans h1.os, hg6.tape.trans h1.tape, hg6.output.trans h1.output, Nat.le_trans h1.size hg6.size, fun b hb' => (hg6.block b (Nat.lt_of_lt_of_le hb' h1.size) (fun e => by have := (hlie b e.symm).1; omega)).trans (h1.block b hb')⟩
   have q0 : w3.drew.cell? ⟨bt, 0, none⟩ = some (.string (factZ x).name) := cell_of_block' (i := 0) hm2 _ rfl;have q1 : w3.drew.cell? ⟨bt, 1, none⟩ = some (.slice fa (factZ x).args.length fc) := cell_of_block' (i := 1) hm2 _ rfl;have q5 : w3.drew.cell? ⟨qb, qo + i * 6 + 5, none⟩ = some (.int .i64 x.n3) := (HB3.out.cell (p := ⟨qb, qo + i * 6 + 5, none⟩) (Nat.lt_of_lt_of_le HQB.out hb.out.size)).trans HP5.out;have hn3 := HOK.out.2.2.2.2.2;have HN3 := Lib.hid hn3;clear hdd hd5 hall hpb hrun hm6 hg6 hm2 hm hb hn3 HFA HB2 HD2
   go_region_law
    (first
     | (refine step_append_by rfl _ _ _ rfl rfl rfl HRUN.out ?_)
     | (go_simp; go_at_call 33; refine (pick10_any x.n3 9 _ HN3.out (by omega) (by omega)).mono ?_; rintro e w' ⟨rfl, rfl⟩))
   all_goals
    go_wp2_with fail
    go_roundw
    case rel => exact ⟨i + 1, HLT.out.1, HLT.out.2, by go_num, (by show MineS _ _ _ _ _ _; rw [HSN.out]; exact HM6), HB6⟩
    case measure => have := HLT.out; simp [intOf]; omega
  ·have hall : (l.take i).map rowZ = rowsZ l := by
    unfold rowsZ
    by_cases h40 : i = 40
    ·rw [h40]
    ·have : i = l.length := by omega
     rw [List.take_of_length_le (by omega), List.take_of_length_le (by omega)]
   rw [hall] at hm
   by_cases h1 : i < l.length
   ·have k1 : decide ((i : Int) < (l.length : Int)) = true := decide_eq_true (by omega)
    have k2 : decide ((i : Int) < 40) = false := decide_eq_false (by omega);have k3 : decide (i < l.length) = true := decide_eq_true h1;have k4 : decide (i < 40) = false := decide_eq_false (by omega);clear hall hlt hi hi40 h1;go_wp2_with fail
    go_ret
    exact ⟨hb.out, _, rfl, hm.out⟩
   ·have k1 : decide ((i : Int) < (l.length : Int)) = false := decide_eq_false (by omega)
    have k3 : decide (i < l.length) = false := decide_eq_false h1;clear hall hlt hi hi40 h1;go_wp2_with fail
    go_ret
    exact ⟨hb.out, _, rfl, hm.out⟩
end Go.Proofs.Ytpnaegohjbaggaa
namespace Go.Proofs.Ytpnaegohjbaggaa
open Go.RowKit
theorem adr_nameR {i : Nat} (h : i < 4) : nameB (adrName i) = true := by
 match i, h with
 | 0, _ => decide
 | 1, _ => decide
 | 2, _ => decide
 | 3, _ => decide
theorem right_factArgR (x : Rw) (i : Nat) : rightV 4 (factArg x i) = true := by
 rw [factArg]
 split
 ·have hb := pickZ_bd ((numOf x i).tdiv 2) 4 (by omega)
  obtain ⟨g, hg⟩ := Int.eq_ofNat_of_zero_le hb.1;rw [hg];have h1 := adr_nameR (show g < 4 by omega);simp [rightV, baseB, h1]
 ·have := pickZ_bd ((numOf x i).tdiv 2) 5 (by omega)
  simp [rightV, baseB, Lib.toList_data]
  omega
theorem right_rowZ (x : Rw) : rightRo (rowZ x) := by
 have hb := pickZ_bd x.name 6 (by omega);have h : (declOf x).name.size ≤ maxLen ∧ 1 ≤ (declOf x).arity ∧ (declOf x).arity ≤ 3 := decl6_ok (by omega)
 show (decide ((factZ x).args.length ≤ 16) && (factZ x).args.all (rightV 4)) = true
 rw [Bool.and_eq_true, List.all_eq_true];refine ⟨decide_eq_true ?_, fun v hv => ?_⟩
 ·simp only [factZ, List.length_map, List.length_range]; omega
 ·simp only [factZ] at hv
  obtain ⟨i, -, rfl⟩ := List.mem_map.1 hv;exact right_factArgR x i
theorem right_rowsZ (l : List Rw) : ∀ x ∈ rowsZ l, rightRo x := by
 intro x hx;simp only [rowsZ] at hx
 obtain ⟨y, -, rfl⟩ := List.mem_map.1 hx;exact right_rowZ y
end Go.Proofs.Ytpnaegohjbaggaa
namespace Go.Proofs.Ytpnaegohjbaggaa
open Go.RowKit
theorem pick11_any (c n : Int) (w : World) (hc : I64 c) (hn : 1 ≤ n) (hn2 : n ≤ 9223372036854775807) :
  Calls Try.prog 16 #[.int .i64 c, .int .i64 n] w fun e w' => e = .returned (.int .i64 (pickZ c n)) ∧ w = w' := by
 obtain ⟨h1, h2⟩ := hc
 by_cases h : c < 0
 ·have HF : Hid (pickZ c n = (-(c + 1)) % n) := by show _ = _; rw [pickZ, if_pos h]
  have h3 : 0 ≤ -(c + 1) := by omega
  have hne : (n == 0) = false := beq_eq_false_iff_ne.2 (by omega);go_enter Try.func16, Try.ntmps16
  go_wp2_with fail
  go_ret
  refine ⟨?_, rfl⟩;rw [HF.out];refine ret_int' ?_;rw [← Int.neg_tmod, Int.tmod_eq_emod_of_nonneg h3]
 ·have HF : Hid (pickZ c n = c % n) := by show _ = _; rw [pickZ, if_neg h]
  have h3 : 0 ≤ c := by omega
  have hne : (n == 0) = false := beq_eq_false_iff_ne.2 (by omega);go_enter Try.func16, Try.ntmps16
  go_wp2_with fail
  go_ret
  refine ⟨?_, rfl⟩;rw [HF.out];rfl
end Go.Proofs.Ytpnaegohjbaggaa
namespace Go.Proofs.Ytpnaegohjbaggaa
open Go.RowKit
theorem RosP.at {l : List Ro} {w0 w : World} {a : Option Addr} {len cap : Nat} (h : RosP l w0 (.slice a len cap)) (hb : Below w0.heap.size w0 w) (i : Nat) (hi : i < l.length) :
  ∃ (b o : Nat) (fa : Option Addr) (fc : Nat), a = some ⟨b, o, none⟩ ∧ b < w0.heap.size ∧ w.cell? ⟨b, o + i * 3, none⟩ = some (.string l[i].name) ∧ w.cell? ⟨b, o + i * 3 + 1, none⟩ = some (.slice fa l[i].args.length fc) ∧
   w.cell? ⟨b, o + i * 3 + 2, none⟩ = some (.int .i64 l[i].stamp) ∧ RepRo (fun k => k < w0.heap.size) w l[i] (.string l[i].name) (.slice fa l[i].args.length fc) (.int .i64 l[i].stamp) ∧ len = l.length := by
 have h' : RepRos (fun k => k < w0.heap.size) w l (.slice a len cap) := RepRos.on (fun _ h => h) (fun k hk => hb.block k hk) h;obtain ⟨h1, -, b, o, fa, fc, e, hS, p0, p1, p2, hr⟩ := RepRos.at h' i hi;exact ⟨b, o, fa, fc, e, hS, p0, p1, p2, hr, h1⟩
theorem pick_nat (c : Int) (n : Nat) (h : 0 < n) : ∃ k : Nat, pickZ c n = (k : Int) ∧ k < n := by
 have hb := pickZ_bd c n (by omega);exact ⟨(pickZ c n).toNat, (Int.toNat_of_nonneg hb.1).symm, by omega⟩
theorem wrap_one (n : Nat) (h : n < 2) : IntKind.i64.wrap (1 + (n : Int)) = ((n + 1 : Nat) : Int) := by rw [IntKind.wrap_i64]; omega
theorem stamp_rowsZ (l : List Rw) : ∀ x ∈ rowsZ l, 0 ≤ x.stamp ∧ x.stamp < 9 := by
 intro x hx;simp only [rowsZ] at hx
 obtain ⟨y, -, rfl⟩ := List.mem_map.1 hx;exact pickZ_bd y.n3 9 (by omega)
theorem len_rowsZ (l : List Rw) : (rowsZ l).length ≤ 40 := by simp only [rowsZ, List.length_map, List.length_take]; omega
def aggN (j : Nat) : ByteArray := if j = 0 then sMin else if j = 1 then sMax else sCount
theorem aggN_good (j : Nat) : AggName (aggN j) := by
 unfold aggN
 split
 ·exact agg_min
 ·split
  ·exact agg_max
  ·exact agg_count
theorem str3_cell {w : World} {b : Nat} (h : w.heap[b]? = some (.cells #[.string sMin, .string sMax, .string sCount] 9 (0, 0))) {j : Nat} (hj : j < 3) : w.cell? ⟨b, j, none⟩ = some (.string (aggN j)) := by
 match j, hj with
 | 0, _ => exact cell_of_block' h _ rfl
 | 1, _ => exact cell_of_block' h _ rfl
 | 2, _ => exact cell_of_block' h _ rfl
theorem any_snoc {α : Type} (p : α → Bool) (l : List α) {i : Nat} (h : i < l.length) : (l.take (i + 1)).any p = ((l.take i).any p || p l[i]) := by
 rw [List.take_succ_eq_append_getElem h, List.any_append, List.any_cons, List.any_nil, Bool.or_false]
def BestI (k : Int) (g : Ro) (l : List Ro) (m : Int) : Prop := (m = -1 ∨ ∃ y ∈ l, AlikeP k g y ∧ y.stamp = m) ∧ -1 ≤ m ∧ ∀ y ∈ l, AlikeP k g y → y.stamp ≤ m
theorem BestI.nil (k : Int) (g : Ro) : BestI k g [] (-1) := ⟨.inl rfl, Int.le_refl _, fun y hy => by simp at hy⟩
theorem BestI.yes {k : Int} {g y : Ro} {l : List Ro} {m : Int} (h : BestI k g l m) (ha : AlikeP k g y) : BestI k g (l ++ [y]) (max m y.stamp) := by
 obtain ⟨h1, h2, h3⟩ := h;refine ⟨?_, by omega, fun z hz hz' => ?_⟩
 ·by_cases hc : m < y.stamp
  ·exact .inr ⟨y, by simp, ha, by omega⟩
  ·rcases h1 with h1 | ⟨z, hz, a, e⟩
   ·exact .inl (by omega)
   ·exact .inr ⟨z, List.mem_append_left _ hz, a, by omega⟩
 ·rcases List.mem_append.1 hz with hz | hz
  ·have := h3 z hz hz'; omega
  ·rw [List.mem_singleton.1 hz]; omega
theorem BestI.no {k : Int} {g y : Ro} {l : List Ro} {m : Int} (h : BestI k g l m) (ha : ¬ AlikeP k g y) : BestI k g (l ++ [y]) m := by
 obtain ⟨h1, h2, h3⟩ := h;refine ⟨h1.imp_right fun ⟨z, hz, a, e⟩ => ⟨z, List.mem_append_left _ hz, a, e⟩, h2, fun z hz hz' => ?_⟩;rcases List.mem_append.1 hz with hz | hz
 ·exact h3 z hz hz'
 ·rw [List.mem_singleton.1 hz] at hz'; exact absurd hz' ha
theorem BestI.is {s : ByteArray} {n : Nat} {l G : List Ro} {g : Ro} {m : Int} (hl : ∀ x ∈ l, rightRo x) (hs : ∀ x ∈ l, 0 ≤ x.stamp) (h : GroupIs s n l G) (hg : g ∈ G) (hb : BestI (n : Int) g l m) : m = g.stamp := by
 obtain ⟨h1, y, hy, ha, e⟩ := group_stamp hl h g hg;obtain ⟨b1, -, b3⟩ := hb;have g1 := b3 y hy ha;have g2 := hs y hy;rcases b1 with b1 | ⟨z, hz, za, ze⟩
 ·omega
 ·have := h1 z hz za; omega
end Go.Proofs.Ytpnaegohjbaggaa
namespace Go.Proofs.Ytpnaegohjbaggaa
open Go.ChangeShapes Go.WideShapes Go.ChangeAt Go.RowKit Go.Deep Go.Joins
theorem cellsInt : Try.prog.cellsOf 3 = 1 := by kernel_rfl
theorem i64_wf {n : Int} (h : (Lit.int .i64 n).wf = true) : I64 n := bounds_i64 h
section
variable {H : Type} {enc : TypeId × Value → H} {W : World}
theorem weightsAll_mem {P : Program} {e : TypeId} {ds : List (DataW H)} {d : DataW H} (h : d ∈ ds) (n : Nat) (hn : n ∈ d.weights P e) : n ∈ DataW.weightsAll P e ds := by
 induction ds with
 | nil => cases h
 | cons x r ih =>
  rw [DataW.weightsAll, List.mem_append];rcases List.mem_cons.1 h with rfl | h
  ·exact Or.inl hn
  ·exact Or.inr (ih h)
def Fits (P : Program) (t : TypeId) (d : DataW H) : Prop := ∀ n ∈ d.weights P t, n ≤ reachBytes
theorem cell_ltO {w : World} {a : Addr} {v : Value} (h : w.cell? a = some v) : a.block < w.heap.size := by
 by_cases hlt : a.block < w.heap.size
 ·exact hlt
 ·have hn : w.heap[a.block]? = none := by simp; omega
  simp [World.cell?, hn] at h
theorem sizeOf_mem {D : Nat → DataW H} {len i : Nat} (h : i < len) {sp : List (DataW H)} : SizeOf.sizeOf (D i) < SizeOf.sizeOf (DataW.slice ((List.range len).map D) sp) := by
 have := List.sizeOf_lt_of_mem (List.mem_map_of_mem (f := D) (List.mem_range.2 h));simp only [DataW.slice.sizeOf_spec]
 omega
set_option maxRecDepth 100000 in
end
end Go.Proofs.Ytpnaegohjbaggaa
namespace Go.Proofs.Ytpnaegohjbaggaa
open Go.ChangeShapes Go.WideShapes Go.ChangeAt Go.RowKit
theorem own : ownKnob Try.prog.godebug = none := by kernel_rfl
theorem laidOut : laidOutB Try.prog = true := by kernel_rfl
noncomputable def plainWorld (os : Os) : World := World.holding Try.prog os ⟨#[], #[], []⟩
section
variable {H : Type} {enc : TypeId × Value → H}
theorem trodAll_below {W W' : World} (hb : Below W.heap.size W W') : ∀ (ts : List TypeId) (vs : List Value) (ds : List (DataW H)) (ps : List MemPlace), DataW.TrodAll enc Try.prog W 0 (fun _ => true) true ts vs ds ps →
  (∀ t ∈ ts, Try.prog.readableRec t = true ∧ t < Try.prog.types.size) → (∀ x ∈ ps, x.block < W.heap.size) → DataW.TrodAll enc Try.prog W' 0 (fun b => decide (b < W.heap.size)) true ts vs ds ps
 | [], [], [], ps, h, _, _ => h
 | t :: ts, v :: vs, d :: ds, ps, h, ht, hp => by
  obtain ⟨p, q, h1, h2, rfl⟩ := h;obtain ⟨r1, r2⟩ := ht t (by simp);exact ⟨p, q, Below.trod laidOut r1 r2 h1 hb (fun x hx => hp x (by simp [hx])), trodAll_below hb ts vs ds q h2 (fun t' h' => ht t' (by simp [h'])) (fun x hx => hp x (by simp [hx])), rfl⟩
 | [], _ :: _, _, _, h, _, _ => by cases h
 | _ :: _, [], _, _, h, _, _ => by cases h
 | [], [], _ :: _, _, h, _, _ => by cases h
 | _ :: _, _ :: _, [], _, h, _, _ => by cases h
theorem law_post {fn : Func} {s : ChangeSpec} {W W' : World} {args : Array Value} {ds gs : List (DataW H)} {before : List MemPlace}
  (hvars : s.vars = []) (hres : fn.resultTypes = #[4]) (hread : ∀ t ∈ fn.params.toList, Try.prog.readableRec t = true ∧ t < Try.prog.types.size)
  (hW : DataW.Whole enc Try.prog fn.params.toList s.vars false W args.toList ds gs before)
  (hs : s.fn H (ds ++ gs) = { results := [.lit (.bool true)], args := ds })
  (hb : Below W.heap.size W W') : s.post enc Try.prog fn false true false false W args (.bool true) W' := by
 have hW' := hW;obtain ⟨p, q, hA, hV, rfl, hfz, hnd⟩ := hW;rw [hvars] at hV;obtain ⟨rfl, rfl⟩ := trodVars_none hV;refine ⟨ds, [], p ++ [], [], p, [], hW', ?_, ?_, ?_, hb.frame _, fun h => by cases h⟩
 ·rw [hres, hs]
  exact trodAll_cons_mk (shut_bool Try.underlying4 _) trodAll_mk0
 ·rw [hs]
  exact trodAll_below hb _ _ _ _ hA hread (fun x hx => hW'.lt x (by simp [hx]))
 ·rw [hs, hvars]
  rfl
theorem fits_cons {t : TypeId} {ts : List TypeId} {d : DataW H} {ds : List (DataW H)} (h : (DataW.weightsEach Try.prog (t :: ts) (d :: ds)).all (· ≤ reachBytes) = true) :
  Fits Try.prog t d ∧ (DataW.weightsEach Try.prog ts ds).all (· ≤ reachBytes) = true := by
 rw [DataW.weightsEach, List.all_append, Bool.and_eq_true] at h;exact ⟨fun n hn => by simpa using (List.all_eq_true.1 h.1) n hn, h.2⟩
end
end Go.Proofs.Ytpnaegohjbaggaa
namespace Go.Proofs.Ytpnaegohjbaggaa
open Go.ChangeShapes Go.WideShapes Go.ChangeAt Go.RowKit Go.Deep Go.Joins
section
variable {H : Type} {enc : TypeId × Value → H} {W : World}
theorem fits_slice {st et : TypeId} {bytes : Nat} (hu : Try.prog.underlying st = some (.slice et)) (hb : Try.prog.bytesOf et = bytes) {elems spare : List (DataW H)} (h : Fits Try.prog st (.slice elems spare)) : (elems.length + spare.length) * bytes ≤ 140737488351232 ∧ ∀ d ∈ elems, Fits Try.prog et d := by
 simp only [Fits, DataW.weights, hu, hb] at h
 refine ⟨h _ (List.mem_cons_self), fun d hd n hn => h n (List.mem_cons_of_mem _ (List.mem_append_left _ (weightsAll_mem hd n hn)))⟩
set_option maxRecDepth 100000 in
theorem slg_of_trod {α : Type} {st et : TypeId} {n bytes : Nat} (R : α → (Nat → Value) → Prop) (x0 : α) (hu : Try.prog.underlying st = some (.slice et)) (hc : Try.prog.cellsOf et = n) (hb : Try.prog.bytesOf et = bytes) (hn : 0 < n)
  (d : DataW H) (fuel : Nat) (v : Value) (ps : List MemPlace) (h : DataW.trod enc Try.prog W 0 (fun _ => true) true fuel st [v] = some (d, ps)) (hf : Fits Try.prog st d)
  (hel : ∀ (d' : DataW H) (fuel' : Nat) (cs : List Value) (ps' : List MemPlace), SizeOf.sizeOf d' < SizeOf.sizeOf d → DataW.trod enc Try.prog W 0 (fun _ => true) true fuel' et cs = some (d', ps') → Fits Try.prog et d' → ∃ (x : α) (c : Nat → Value), (∀ j, j < n → cs[j]? = some (c j)) ∧ R x c) :
  ∃ l, SlG (fun k => k < W.heap.size) W n bytes R l v ∧ l.length * bytes ≤ 140737488351232 := by
 rcases open_slice hu h with ⟨hcs, hx⟩ | ⟨a, len, cap, mm, nf, D, Pl, hcs, _, hl, hm, hmm, hx, hall⟩
 ·simp only [List.cons.injEq, and_true] at hcs
  subst hcs;exact ⟨[], ⟨none, 0, 0, 0, rfl, Nat.le_refl _, by simp, fun h => by omega, fun h => by simp at h, fun i hi => by simp at hi⟩, by simp⟩
 ·simp only [List.cons.injEq, and_true] at hcs
  subst hcs;simp only [if_true] at hmm
  subst hmm;simp only [Prod.mk.injEq] at hx
  obtain ⟨hd, _⟩ := hx;rw [hc] at hall;have hfv := hf;rw [hd] at hfv;obtain ⟨hcap, hfe⟩ := fits_slice hu hb hfv
  have hcap' : mm * bytes ≤ 140737488351232 := by
   simp only [List.length_map, List.length_range] at hcap
   have : len + (mm - len) = mm := by omega
   rw [this] at hcap;exact hcap
  have hsz : ∀ i, i < len → SizeOf.sizeOf (D i) < SizeOf.sizeOf d := fun i hi => by rw [hd]; exact sizeOf_mem hi
  have hspot : 0 < mm → a.spot = none := fun h0 => by
   obtain ⟨cs', g1, g2⟩ := hall 0 h0;obtain ⟨_, hlen, hcell⟩ := World.cells?_some g1;have hc0 : cs'[0]? = some (cs'[0]'(by omega)) := List.getElem?_eq_getElem _;have := World.cell?_spot ((hcell 0 hn).trans hc0)
   simpa [Addr.add] using this
  have key : ∀ i : Nat, ∃ p : α × (Nat → Value), i < len → (∀ j, j < n → W.cell? ⟨a.block, a.off + i * n + j, none⟩ = some (p.2 j)) ∧ R p.1 p.2 := by
   intro i
   by_cases hi : i < len
   ·obtain ⟨cs', g1, g2⟩ := hall i (by omega)
    obtain ⟨x, c, hcj, hr⟩ := hel (D i) nf cs' (Pl i) (hsz i hi) g2 (hfe _ (List.mem_map_of_mem (List.mem_range.2 hi)));obtain ⟨_, hlen, hcell⟩ := World.cells?_some g1;refine ⟨(x, c), fun _ => ⟨fun j hj => ?_, hr⟩⟩;have hs := hspot (by omega);have e := (hcell j hj).trans (hcj j hj);obtain ⟨ab, ao, sp⟩ := a;simp only at hs
    subst hs;have add0 : ∀ (b o j : Nat), ((⟨b, o, none⟩ : Addr).add j) = ⟨b, o + j, none⟩ := by intro b o j; unfold Addr.add; split <;> simp_all
    rw [add0, add0] at e;exact e
   ·exact ⟨(x0, fun _ => undef), fun h => absurd h hi⟩
  obtain ⟨X, hX⟩ := Classical.axiomOfChoice key;have hby : len * bytes ≤ mm * bytes := Nat.mul_le_mul_right _ hl;refine ⟨(List.range len).map (fun i => (X i).1), ⟨some a, a.block, a.off, mm, by simp, by simpa using hl, by simp; omega, fun h0 => ?_, fun h0 => ?_, fun i hi => ?_⟩, by simp; omega⟩
  ·have := hspot h0
   obtain ⟨b, o, sp⟩ := a;simp at this
   subst this;rfl
  ·simp at h0
   obtain ⟨q, _⟩ := hX 0 (by omega);exact cell_ltO (a := ⟨a.block, _, none⟩) (q 0 hn)
  ·have hi' : i < len := by simpa using hi
   obtain ⟨q, hr⟩ := hX i hi';exact ⟨_, q, by rw [List.getElem_map, List.getElem_range]; exact hr⟩
def at7o (c0 c1 c2 c3 c4 c5 c6 : Value) : Nat → Value
 | 0 => c0 | 1 => c1 | 2 => c2 | 3 => c3 | 4 => c4 | 5 => c5 | _ => c6
end
end Go.Proofs.Ytpnaegohjbaggaa
namespace Go.Proofs.Ytpnaegohjbaggaa
open Go.ChangeShapes Go.WideShapes Go.ChangeAt Go.RowKit Go.Deep Go.Joins
theorem cellsRw : Try.prog.cellsOf 69 = 6 := by kernel_rfl
theorem bytesRw : Try.prog.bytesOf 69 = 48 := by kernel_rfl
theorem cellsN4 : Try.prog.cellsOf 67 = 4 := by kernel_rfl
section
variable {H : Type} {enc : TypeId × Value → H} {W : World}
set_option maxRecDepth 100000 in
theorem rw_of_trod (d : DataW H) (fuel : Nat) (cs : List Value) (ps : List MemPlace) (h : DataW.trod enc Try.prog W 0 (fun _ => true) true fuel 69 cs = some (d, ps)) :
  ∃ (x : Rw) (c : Nat → Value), (∀ j, j < 6 → cs[j]? = some (c j)) ∧ RepRw (fun k => k < W.heap.size) W x c := by
 obtain ⟨y0, y1, y2, n, hx, hlen, h0, h1, h2⟩ := trod_struct3 Try.underlying69 h;rw [cellsRw] at hlen
 match cs, hlen with
 | [c0, c1, c2, c3, c4, c5], _ =>
  simp [cellsInt] at h0
  simp [cellsInt] at h1
  simp [cellsN4] at h2
  obtain ⟨k, e0, r0, w0⟩ := DataW.trod_int Try.underlying3 h0;obtain ⟨s, e1, r1, w1⟩ := DataW.trod_int Try.underlying3 h1;obtain ⟨z0, z1, z2, z3, n', hx', q0, q1, q2, q3⟩ := trod_array4 Try.underlying67 cellsInt h2;obtain ⟨n0, f0, r2, w2⟩ := DataW.trod_int Try.underlying3 q0;obtain ⟨n1, f1, r3, w3⟩ := DataW.trod_int Try.underlying3 q1;obtain ⟨n2, f2, r4, w4⟩ := DataW.trod_int Try.underlying3 q2;obtain ⟨n3, f3, r5, w5⟩ := DataW.trod_int Try.underlying3 q3;simp at e0 e1 f0 f1 f2 f3
  subst e0 e1 f0 f1 f2 f3
  exact ⟨⟨k, s, n0, n1, n2, n3⟩, at7o (.int .i64 k) (.int .i64 s) (.int .i64 n0) (.int .i64 n1) (.int .i64 n2) (.int .i64 n3) (.int .i64 n3), fun j hj => match j, hj with
   | 0, _ => rfl | 1, _ => rfl | 2, _ => rfl | 3, _ => rfl | 4, _ => rfl | 5, _ => rfl, rfl, rfl, rfl, rfl, rfl, rfl, i64_wf w0, i64_wf w1, i64_wf w2, i64_wf w3, i64_wf w4, i64_wf w5⟩
theorem rws_of_trod (d : DataW H) (fuel : Nat) (v : Value) (ps : List MemPlace) (h : DataW.trod enc Try.prog W 0 (fun _ => true) true fuel 39 [v] = some (d, ps)) (hf : Fits Try.prog 39 d) :
  ∃ l, RepRws (fun k => k < W.heap.size) W l v := by
 obtain ⟨l, hl, -⟩ := slg_of_trod (RepRw (fun k => k < W.heap.size) W) ⟨0, 0, 0, 0, 0, 0⟩ Try.underlying39 cellsRw bytesRw (by omega) d fuel v ps h hf
  (fun d' fuel' cs' ps' _ h' _ => rw_of_trod d' fuel' cs' ps' h')
 exact ⟨l, hl⟩
set_option maxRecDepth 100000 in
theorem open_rws {base : Nat} {v : Value} {d : DataW H} {p : List MemPlace} (hv : Value.okWide Try.prog W .any base 39 v) (h : DataW.Trod enc Try.prog W 0 (fun _ => true) true 39 v d p) (hf : Fits Try.prog 39 d) :
  ∃ l, RepRws (fun k => k < W.heap.size) W l v := by
 obtain ⟨a0, len, cap, rfl⟩ := okWide_slice Try.underlying39 hv;obtain ⟨fuel, hf'⟩ := h;exact rws_of_trod d fuel _ p (by simpa [Value.cells] using hf') hf
end
end Go.Proofs.Ytpnaegohjbaggaa
