/-
  RefSixVars, RefSixFree, ScOnce, ScFits
-/
import Derived.Test.YtjohcnhiblfbnaaGreatK11
import Derived.Test.YtjohcnhiblfbnaaGreatK06
import Derived.Test.YtjohcnhiblfbnaaGreatK09
import Derived.Test.YtjohcnhiblfbnaaGreatK10
namespace Go.Proofs.YtjohcnhiblfbnaaGreat
open Go.RowKit
theorem varsL_takeM (l : List Tm) {k : Nat} (h : k < l.length) : varsL (l.take (k + 1)) = varsL (l.take k) ++ varsM l[k] := by
 rw [List.take_succ_eq_append_getElem h, varsL_append]; simp [varsL]
theorem varsL_take_le (l : List Tm) (k : Nat) : (varsL (l.take k)).length ≤ (varsL l).length := by
 conv => rhs; rw [← List.take_append_drop k l, varsL_append]
 simp
theorem ddF_next (a l : List ByteArray) {k : Nat} (h : k < l.length) : ddF a (l.take (k + 1)) = stepB (ddF a (l.take k)) l[k] := by
 rw [List.take_succ_eq_append_getElem h, ddF_snoc]
def Vars6At (t : Tm) : Prop := ∀ (S : Nat → Prop) (w : World) (c0 c1 c2 c3 c4 c5 c6 : Value), (∀ k, S k → k < w.heap.size) → RepM S w t c0 c1 c2 c3 c4 c5 c6 →
 Calls Tryz.prog 18 #[.agg #[c0, c1, c2, c3, c4, c5, c6]] w fun e w' => ∃ v, e = .returned v ∧ TxAt (fun b => w.heap.size ≤ b ∧ b < w'.heap.size) w' (ddF [] (varsM t)) v ∧ Below w.heap.size w w'
set_option maxRecDepth 100000 in
set_option maxHeartbeats 4000000 in
theorem vars6_of (t : Tm) (hargs : t.kind = 1 → t.args = []) (hlen : t.args.length ≤ 8) (hfew : (varsL t.args).length ≤ 900) (h : ∀ x ∈ t.args, Vars6At x) : Vars6At t := by
 intro S w c0 c1 c2 c3 c4 c5 c6 hS ht;have HT := Lib.hid ht.lst; have HS := Lib.hid hS; have HH := Lib.hid h; have HLN := Lib.hid hlen; have HF := Lib.hid hfew
 obtain ⟨fa, fc, xa, xc, rfl, rfl, rfl, rfl, rfl, rfl, rfl⟩ := ht.form;clear ht hS h hlen hfew;go_enter Tryz.func18, Tryz.ntmps18
 go_upto_region 1 with fail
 have mk1 := boxM_new w (.int .i64 t.kind) (.string t.name) (.int .i64 t.val.kind) (.int .i64 t.val.num) (.string t.val.text) (.slice fa t.val.list.length fc) (.slice xa t.args.length xc);have da1 := below_alloc w (.cells #[.int .i64 t.kind, .string t.name, .int .i64 t.val.kind, .int .i64 t.val.num, .string t.val.text, .slice fa t.val.list.length fc, .slice xa t.args.length xc] 34);have sa1 := World.size_alloc w (.cells #[.int .i64 t.kind, .string t.name, .int .i64 t.val.kind, .int .i64 t.val.num, .string t.val.text, .slice fa t.val.list.length fc, .slice xa t.args.length xc] 34);generalize w.alloc (.cells #[.int .i64 t.kind, .string t.name, .int .i64 t.val.kind, .int .i64 t.val.num, .string t.val.text, .slice fa t.val.list.length fc, .slice xa t.args.length xc] 34) = w1 at *;have X1 := Lib.hid mk1; have B1 := Lib.hid da1; have K1 : Hid (w1.heap.size = w.heap.size + 1) := sa1
 clear mk1 da1 sa1;obtain ⟨p0, p1, p2, p3, p4, p5, p6⟩ := X1.out.cells
 by_cases hk : t.kind = 1
 ·have hk1 : (t.kind == 1) = true := by simp [hk]
  have HE : Hid (ddF [] (varsM t) = [t.name]) := by show _ = _; rw [varsM_eq, if_pos hk, hargs hk]; simp [varsL, ddF, stepB, inB]
  clear hk hargs;go_wp2_with fail
  go_ret
  have B2 := Below.step B1.out (below_alloc w1 (.cells #[.string t.name] 9));have hs := World.size_alloc w1 (.cells #[.string t.name] 9);refine ⟨_, rfl, ?_, B2⟩;rw [HE.out];exact (TxAt.one w1 t.name).on (fun b hb => by have := K1.out; omega) (fun _ _ => rfl)
 ·have hk1 : (t.kind == 1) = false := by simpa using hk
  have HE : Hid (varsM t = varsL t.args) := by show _ = _; rw [varsM_eq, if_neg hk]; rfl
  clear hk hargs;go_wp2_with fail
  clear p0 p1 p2 p3 p4 p5 p6;go_loopw [3, 4, 5, 6, 7] (fun ov iv _ _ _ wr => ∃ k : Nat, k ≤ t.args.length ∧ iv = .int .i64 (k : Int) ∧ TxOwn wr w1.heap.size (ddF [] (varsL (t.args.take k))) ov ∧ Below w1.heap.size w1 wr) (fun _ iv _ _ _ _ => t.args.length - (intOf iv).toNat)
  case atStart => exact ⟨0, Nat.zero_le _, rfl, TxOwn.nil _ _, Below.refl _ _⟩
  case round =>
   obtain ⟨k, hk, rfl, hm, hb⟩ := hrel;have HM := Lib.hid hm; have HB := Lib.hid hb
   have HBW := Lib.hid (Below.step B1.out hb);have x1 := X1.out.on hb;obtain ⟨p0, p1, p2, p3, p4, p5, p6⟩ := x1.cells;clear hm hb x1
   by_cases hlt : k < t.args.length
   ·have i1 : decide ((k : Int) < (t.args.length : Int)) = true := decide_eq_true (by omega)
    have i2 : decide (k < t.args.length) = true := decide_eq_true hlt;obtain ⟨-, -, lb, lo, fa', fc', xa', xc', hga, hlb, g0, g1, g2, g3, g4, g5, g6, g⟩ := RepMs.at HT.out k hlt;have hlw : lb < w.heap.size := HS.out lb hlb;replace g0 := (HBW.out.cell (p := ⟨lb, lo + k * 7, none⟩) hlw).trans g0;replace g1 := (HBW.out.cell (p := ⟨lb, lo + k * 7 + 1, none⟩) hlw).trans g1;replace g2 := (HBW.out.cell (p := ⟨lb, lo + k * 7 + 2, none⟩) hlw).trans g2;replace g3 := (HBW.out.cell (p := ⟨lb, lo + k * 7 + 3, none⟩) hlw).trans g3;replace g4 := (HBW.out.cell (p := ⟨lb, lo + k * 7 + 4, none⟩) hlw).trans g4;replace g5 := (HBW.out.cell (p := ⟨lb, lo + k * 7 + 5, none⟩) hlw).trans g5;replace g6 := (HBW.out.cell (p := ⟨lb, lo + k * 7 + 6, none⟩) hlw).trans g6;have hk1' : (0 : Int) ≤ (k : Int) := Int.natCast_nonneg k;have hk2' : (k : Int) < (t.args.length : Int) := by omega
    have HTA := Lib.hid (HH.out t.args[k] (List.getElem_mem hlt))
    have HTK : Hid (ddF [] (varsL (t.args.take (k + 1))) = ddF (ddF [] (varsL (t.args.take k))) (ddF [] (varsM t.args[k]))) := by
     show _ = _; rw [varsL_takeM _ hlt, ddF_append, ddF_twice]
    have HKL := Lib.hid hlt
    have HLL : Hid ((ddF [] (varsL (t.args.take k))).length + (ddF [] (varsM t.args[k])).length ≤ 900) := by
     show _ ≤ _
     have h1 := ddF_le (varsL (t.args.take k)) [];have h2 := ddF_le (varsM t.args[k]) [];have h3 := varsL_take_le t.args (k + 1);rw [varsL_takeM _ hlt, List.length_append] at h3;have := HF.out;rw [List.length_nil] at h1 h2;omega
    have HG : Hid (RepM S wr t.args[k] (.int .i64 t.args[k].kind) (.string t.args[k].name) (.int .i64 t.args[k].val.kind) (.int .i64 t.args[k].val.num) (.string t.args[k].val.text) (.slice fa' t.args[k].val.list.length fc') (.slice xa' t.args[k].args.length xc')) := RepM.on (fun _ h => h) (fun b hb => HBW.out.block b (HS.out b hb)) _ g;subst hga;clear g hlb hlw;generalize t.args[k] = y at *;clear hk hlt;obtain ⟨D, hD⟩ : ∃ D, ddF [] (varsM y) = D := ⟨_, rfl⟩;rw [hD] at HTK HLL;obtain ⟨A, hA⟩ : ∃ A, ddF [] (varsL (t.args.take k)) = A := ⟨_, rfl⟩;rw [hA] at HM HTK HLL;clear hA;go_wp2_with fail
    refine (HTA.out S wr _ _ _ _ _ _ _ (fun b hb => Nat.lt_of_lt_of_le (HS.out b hb) HBW.out.size) HG.out).mono ?_;rintro e w2 ⟨lv, rfl, hlv, hb2⟩;rw [hD] at hlv;clear hD;obtain ⟨la, lc, rfl⟩ := SlG.form hlv;have HLV := Lib.hid hlv; have HB2 := Lib.hid hb2
    have hdl : D.length ≤ 900 := by have := HLL.out; omega
    clear hlv hb2 g0 g1 g2 g3 g4 g5 g6 hk1' hk2' i1 i2 p0 p1 p2 p3 p4 p5 p6 HTA HG;generalize wr = wo at *;go_wp2_with fail
    go_loopw [3, 6, 7] (fun qv jv _ wi => ∃ j : Nat, j ≤ D.length ∧ jv = .int .i64 (j : Int) ∧ TxOwn wi w1.heap.size (ddF A (D.take j)) qv ∧ Below w1.heap.size w1 wi ∧ (∀ b, wo.heap.size ≤ b → b < w2.heap.size → wi.heap[b]? = w2.heap[b]?) ∧ (∀ b, wo.heap.size ≤ b → b < w2.heap.size → qv.ownBlock ≠ some b) ∧ w2.heap.size ≤ wi.heap.size) (fun _ jv _ _ => D.length - (intOf jv).toNat)
    case atStart => exact ⟨0, Nat.zero_le _, rfl, HM.out.on HB2.out, Below.step HB.out HB2.out, fun _ _ _ => rfl, fun b h1 _ e => by have := (HM.out.lies b e).2; omega, Nat.le_refl _⟩
    case round =>
     obtain ⟨j, hj, rfl, hq, hqb, hsame, hoff, hsz⟩ := hrel;have HQ := Lib.hid hq; have HQB := Lib.hid hqb; have HSA := Lib.hid hsame; have HOF := Lib.hid hoff; have HSZ := Lib.hid hsz
     clear hq hqb hsame hoff hsz
     by_cases hjl : j < D.length
     ·have i1 : decide ((j : Int) < (D.length : Int)) = true := decide_eq_true (by omega)
      have i2 : decide (j < D.length) = true := decide_eq_true hjl;obtain ⟨-, -, db, dq, hda, hdb, c, hc, hx⟩ := SlG.at (HLV.out.on (fun _ h => h) (fun b hb => HSA.out b hb.1 hb.2) : TxAt (fun b => wo.heap.size ≤ b ∧ b < w2.heap.size) wr D (.slice la D.length lc)) j hjl;have q0 := hc 0 (by omega);rw [Nat.mul_one, Nat.add_zero, hx] at q0;have hj1 : (0 : Int) ≤ (j : Int) := Int.natCast_nonneg j;have hj2 : (j : Int) < (D.length : Int) := by omega
      have HJL := Lib.hid hjl;have HNX := Lib.hid (ddF_next A D hjl)
      have HQL : Hid ((ddF A (D.take j)).length ≤ 1000) := by
       show _ ≤ _; have := ddF_le (D.take j) A; have := HLL.out; rw [List.length_take] at *; omega
      subst hda;clear hdb hc hx;generalize D[j] = x at *;generalize ddF A (D.take j) = Q at *;clear hj hjl;have HAT : Hid (TxAt (fun b => w1.heap.size ≤ b ∧ b < wr.heap.size) wr Q u3) := HQ.out.at (by have := HQL.out; omega)
      cases hin : inB Q x with
      | true =>
       have HE2 : Hid (ddF A (D.take (j + 1)) = Q) := by show _ = _; rw [HNX.out, stepB, if_pos hin]
       go_wp2_with fail
       refine (has6_any Q x _ wr u3 HAT.out).mono ?_;rintro e w3 ⟨rfl, rfl⟩;rw [hin];go_wp2_with fail
       go_roundw
       case rel => exact ⟨j + 1, HJL.out, by go_num, by rw [HE2.out]; exact HQ.out, HQB.out, HSA.out, HOF.out, HSZ.out⟩
       case measure => have := HJL.out; simp [intOf]; omega
      | false =>
       have HE2 : Hid (ddF A (D.take (j + 1)) = Q ++ [x]) := by show _ = _; rw [HNX.out, stepB, if_neg (by rw [hin]; decide)]
       go_wp2_with fail
       refine (has6_any Q x _ wr u3 HAT.out).mono ?_;rintro e w3 ⟨rfl, rfl⟩;rw [hin];obtain ⟨a6, cap6, w6, hrun, hm6, hb6, hk6, ho6⟩ := tx_append HQ.out (by have := HQB.out.size; exact this) HQL.out x;have HRUN := Lib.hid hrun; have HM6 := Lib.hid hm6; have HB6 := Lib.hid hb6; have HK6 := Lib.hid hk6; have HO6 := Lib.hid ho6
       clear hrun hm6 hb6 hk6 ho6;go_wp2_with (at_builtin; refine wpList_append_by rfl _ _ _ rfl rfl rfl HRUN.out ?_)
       go_roundw
       case rel => exact ⟨j + 1, HJL.out, by go_num, by rw [HE2.out]; exact HM6.out, below_two HQB.out HB6.out, fun b h1 h2 => (HK6.out b (Nat.lt_of_lt_of_le h2 HSZ.out) (HOF.out b h1 h2)).trans (HSA.out b h1 h2), fun b h1 h2 e => HOF.out b h1 h2 (HO6.out b (Nat.lt_of_lt_of_le h2 HSZ.out) e), Nat.le_trans HSZ.out HB6.out.size⟩
       case measure => have := HJL.out; simp [intOf]; omega
     ·have i1 : decide ((j : Int) < (D.length : Int)) = false := decide_eq_false (by omega)
      have i2 : decide (j < D.length) = false := decide_eq_false hjl;have hjj : D.take j = D := List.take_of_length_le (by omega);rw [hjj] at HQ;clear hjj;go_wp2_with fail
      go_roundw
      case rel => exact ⟨k + 1, HKL.out, (by have := HKL.out; have := HLN.out; rw [show wrap64 ((k : Int) + 1) = ((k + 1 : Nat) : Int) by unfold wrap64; omega]), by rw [HTK.out]; exact HQ.out, HQB.out⟩
      case measure => exact measure_up HKL.out (by have := HLN.out; omega)
   ·have i1 : decide ((k : Int) < (t.args.length : Int)) = false := decide_eq_false (by omega)
    have i2 : decide (k < t.args.length) = false := decide_eq_false hlt;have hkk : t.args.take k = t.args := List.take_of_length_le (by omega);rw [hkk] at HM;clear hkk;go_wp2_with fail
    go_ret
    refine ⟨_, rfl, ?_, HBW.out⟩;rw [HE.out];exact (HM.out.at (by have h1 := ddF_le (varsL t.args) []; have h2 := HF.out; rw [List.length_nil] at h1; omega)).on (fun b hb => by have := K1.out; omega) (fun _ _ => rfl)
theorem vars6_any : ∀ (d : Nat) (t : Tm), d ≤ 8 → rightM d t = true → Vars6At t
 | 0, t, _, h => by rw [rightM] at h; cases h
 | d + 1, .mk k s x l, hd, h => by
  have hf := (vars_few (d + 1) (.mk k s x l) h).1;have h8 : 2 ^ (d + 1) ≤ 2 ^ 8 := Nat.pow_le_pow_right (by omega) hd;rw [varsM, List.length_append] at hf;rw [rightM] at h
  have key : (∀ y ∈ l, rightM d y = true) → l.length ≤ 8 → (k = 1 → l = []) → Vars6At (.mk k s x l) := fun hr hl h1 =>
   vars6_of (.mk k s x l) h1 hl (by show (varsL l).length ≤ 900; omega) fun y hy => vars6_any d y (by omega) (hr y hy)
  by_cases h1 : k = 1
  ·rw [if_pos h1] at h
   simp only [Bool.and_eq_true, List.isEmpty_iff] at h
   obtain ⟨-, -, rfl⟩ := h;exact key (by simp) (by simp) (fun _ => rfl)
  ·rw [if_neg h1] at h
   by_cases h2 : k = 2
   ·rw [if_pos h2] at h
    simp only [Bool.and_eq_true, List.isEmpty_iff] at h
    obtain ⟨-, -, rfl⟩ := h;exact key (by simp) (by simp) (fun _ => rfl)
   ·rw [if_neg h2] at h
    by_cases h3 : k = 3
    ·rw [if_pos h3] at h
     simp only [Bool.and_eq_true] at h
     obtain ⟨b1, b2, b3⟩ := listB_bounds h.2;have := fnArity_le (fnOf s);exact key b3 (by omega) (fun e => absurd e h1)
    ·rw [if_neg h3] at h
     by_cases h4 : k = 4
     ·rw [if_pos h4] at h
      simp only [Bool.and_eq_true] at h
      obtain ⟨b1, b2, b3⟩ := listB_bounds h.2.2;exact key b3 (by omega) (fun e => absurd e h1)
     ·rw [if_neg h4] at h; cases h
end Go.Proofs.YtjohcnhiblfbnaaGreat
namespace Go.Proofs.YtjohcnhiblfbnaaGreat
open Go.RowKit
theorem dd_all (p : ByteArray → Bool) (l : List ByteArray) : (ddF [] l).all p = l.all p := by
 rw [Bool.eq_iff_iff, List.all_eq_true, List.all_eq_true]
 constructor
 ·intro h x hx; exact h x (ddF_mem.2 (.inr hx))
 ·intro h x hx
  rcases ddF_mem.1 hx with hx | hx
  ·cases hx
  ·exact h x hx
theorem varsL_drop (l : List Tm) {k : Nat} (h : k < l.length) : varsL (l.drop k) = varsM l[k] ++ varsL (l.drop (k + 1)) := by
 rw [List.drop_eq_getElem_cons h, varsL]
set_option maxRecDepth 100000 in
set_option maxHeartbeats 4000000 in
theorem free6_any (l : List Tm) (bound : List ByteArray) (S T : Nat → Prop) (w : World) (v bv : Value) (hlen : l.length ≤ 1000) (hall : ∀ x ∈ l, Vars6At x ∧ (varsM x).length ≤ 900) (hS : ∀ k, S k → k < w.heap.size) (hT : ∀ k, T k → k < w.heap.size) (hl : RepMs S w l v) (hb : TxAt T w bound bv) :
  Calls Tryz.prog 68 #[v, bv] w fun e w' => e = .returned (.bool (!(varsL l).all (inB bound))) ∧ Below w.heap.size w w' := by
 have HT := Lib.hid hl; have HS := Lib.hid hS; have HH := Lib.hid hall; have HLN := Lib.hid hlen; have HTT := Lib.hid hT; have HBD := Lib.hid hb
 obtain ⟨xa, xc, rfl⟩ := SlG.form hl;obtain ⟨ba, bc, rfl⟩ := SlG.form hb;clear hl hS hall hlen hT hb;go_enter Tryz.func68, Tryz.ntmps68
 go_wp2_with fail
 go_loopw [5, 6, 7, 8] (fun iv _ _ _ wr => ∃ k : Nat, k ≤ l.length ∧ iv = .int .i64 (k : Int) ∧ Hid ((varsL l).all (inB bound) = (varsL (l.drop k)).all (inB bound)) ∧ Below w.heap.size w wr) (fun iv _ _ _ _ => l.length - (intOf iv).toNat)
 case atStart => exact ⟨0, Nat.zero_le _, rfl, rfl, Below.refl _ _⟩
 case round =>
  obtain ⟨k, hk, rfl, hrec, hb⟩ := hrel;have HBW := Lib.hid hb;clear hb
  by_cases hlt : k < l.length
  ·have i1 : decide ((k : Int) < (l.length : Int)) = true := decide_eq_true (by omega)
   have i2 : decide (k < l.length) = true := decide_eq_true hlt;obtain ⟨-, -, lb, lo, fa', fc', xa', xc', hga, hlb, g0, g1, g2, g3, g4, g5, g6, g⟩ := RepMs.at HT.out k hlt;have hlw : lb < w.heap.size := HS.out lb hlb;replace g0 := (HBW.out.cell (p := ⟨lb, lo + k * 7, none⟩) hlw).trans g0;replace g1 := (HBW.out.cell (p := ⟨lb, lo + k * 7 + 1, none⟩) hlw).trans g1;replace g2 := (HBW.out.cell (p := ⟨lb, lo + k * 7 + 2, none⟩) hlw).trans g2;replace g3 := (HBW.out.cell (p := ⟨lb, lo + k * 7 + 3, none⟩) hlw).trans g3;replace g4 := (HBW.out.cell (p := ⟨lb, lo + k * 7 + 4, none⟩) hlw).trans g4;replace g5 := (HBW.out.cell (p := ⟨lb, lo + k * 7 + 5, none⟩) hlw).trans g5;replace g6 := (HBW.out.cell (p := ⟨lb, lo + k * 7 + 6, none⟩) hlw).trans g6;have hk1' : (0 : Int) ≤ (k : Int) := Int.natCast_nonneg k;have hk2' : (k : Int) < (l.length : Int) := by omega
   have HTA := Lib.hid (HH.out l[k] (List.getElem_mem hlt)).1;have HKL := Lib.hid hlt
   have HLL : Hid ((ddF [] (varsM l[k])).length ≤ 900) := by
    show _ ≤ _
    have h2 := ddF_le (varsM l[k]) [];rw [List.length_nil] at h2;have := (HH.out l[k] (List.getElem_mem hlt)).2;omega
   have HRC : Hid ((varsL l).all (inB bound) = ((ddF [] (varsM l[k])).all (inB bound) && (varsL (l.drop (k + 1))).all (inB bound))) := by
    show _ = _
    rw [hrec.out, varsL_drop l hlt, List.all_append, dd_all]; rfl
   have HG : Hid (RepM S wr l[k] (.int .i64 l[k].kind) (.string l[k].name) (.int .i64 l[k].val.kind) (.int .i64 l[k].val.num) (.string l[k].val.text) (.slice fa' l[k].val.list.length fc') (.slice xa' l[k].args.length xc')) := RepM.on (fun _ h => h) (fun b hb => HBW.out.block b (HS.out b hb)) _ g;subst hga;clear g hlb hlw hrec;generalize l[k] = y at *;clear hk hlt;obtain ⟨D, hD⟩ : ∃ D, ddF [] (varsM y) = D := ⟨_, rfl⟩;rw [hD] at HRC HLL;go_wp2_with fail
   refine (HTA.out S wr _ _ _ _ _ _ _ (fun b hb => Nat.lt_of_lt_of_le (HS.out b hb) HBW.out.size) HG.out).mono ?_;rintro e w2 ⟨lv, rfl, hlv, hb2⟩;rw [hD] at hlv;clear hD;obtain ⟨la, lc, rfl⟩ := SlG.form hlv;have HLV := Lib.hid hlv;have HB2 := Lib.hid (Below.step HBW.out hb2);have hdl : D.length ≤ 900 := HLL.out;have HTX : Hid (TxAt T w2 bound (.slice ba bound.length bc)) := HBD.out.on (fun _ h => h) (fun b hb => HB2.out.block b (HTT.out b hb));clear hlv hb2 g0 g1 g2 g3 g4 g5 g6 hk1' hk2' i1 i2 HTA HG;generalize wr = wo at *;go_wp2_with fail
   go_loop [7, 8] (fun jv _ => ∃ j : Nat, j ≤ D.length ∧ jv = .int .i64 (j : Int) ∧ Hid (D.all (inB bound) = (D.drop j).all (inB bound))) (fun jv _ => D.length - (intOf jv).toNat)
   case atStart => exact ⟨0, Nat.zero_le _, rfl, rfl⟩
   case round =>
    obtain ⟨j, hj, rfl, hrec⟩ := hrel
    by_cases hjl : j < D.length
    ·have i1 : decide ((j : Int) < (D.length : Int)) = true := decide_eq_true (by omega)
     have i2 : decide (j < D.length) = true := decide_eq_true hjl;obtain ⟨-, -, db, dq, hda, hdb, c, hc, hx⟩ := SlG.at HLV.out j hjl;have q0 := hc 0 (by omega);rw [Nat.mul_one, Nat.add_zero, hx] at q0;have hj1 : (0 : Int) ≤ (j : Int) := Int.natCast_nonneg j;have hj2 : (j : Int) < (D.length : Int) := by omega
     have HJL := Lib.hid hjl
     have HNX : Hid (D.all (inB bound) = (inB bound D[j] && (D.drop (j + 1)).all (inB bound))) := by
      show _ = _; rw [hrec.out, List.drop_eq_getElem_cons hjl, List.all_cons]; rfl
     subst hda;clear hdb hc hx hrec;generalize D[j] = x at *;clear hj hjl
     cases hin : inB bound x with
     | true =>
      have HE2 : Hid (D.all (inB bound) = (D.drop (j + 1)).all (inB bound)) := by show _ = _; rw [HNX.out, hin, Bool.true_and]
      go_wp2_with fail
      refine (has6_any bound x _ w2 _ HTX.out).mono ?_;rintro e w3 ⟨rfl, rfl⟩;rw [hin];go_wp2_with fail
      go_round
      case rel => exact ⟨j + 1, HJL.out, by go_num, HE2⟩
      case measure => have := HJL.out; simp [intOf]; omega
     | false =>
      have HE2 : Hid (D.all (inB bound) = false) := by show _ = _; rw [HNX.out, hin, Bool.false_and]
      go_wp2_with fail
      refine (has6_any bound x _ w2 _ HTX.out).mono ?_;rintro e w3 ⟨rfl, rfl⟩;rw [hin];go_wp2_with fail
      go_ret
      exact ⟨ret_bool (by rw [HRC.out, HE2.out]; rfl), HB2.out⟩
    ·have i1 : decide ((j : Int) < (D.length : Int)) = false := decide_eq_false (by omega)
     have i2 : decide (j < D.length) = false := decide_eq_false hjl;have HE2 : Hid (D.all (inB bound) = true) := by show _ = _; rw [hrec.out, List.drop_of_length_le (by omega)]; rfl
     go_wp2_with fail
     go_roundw
     case rel => exact ⟨k + 1, HKL.out, (by have := HKL.out; have := HLN.out; rw [show wrap64 ((k : Int) + 1) = ((k + 1 : Nat) : Int) by unfold wrap64; omega]), by show _ = _; rw [HRC.out, HE2.out, Bool.true_and], HB2.out⟩
     case measure => exact measure_up HKL.out HLN.out
  ·have i1 : decide ((k : Int) < (l.length : Int)) = false := decide_eq_false (by omega)
   have i2 : decide (k < l.length) = false := decide_eq_false hlt;have HE : Hid ((varsL l).all (inB bound) = true) := by show _ = _; rw [hrec.out, List.drop_of_length_le (by omega)]; rfl
   go_wp2_with fail
   go_ret
   exact ⟨ret_bool (by rw [HE.out]; rfl), HBW.out⟩
end Go.Proofs.YtjohcnhiblfbnaaGreat
namespace Go.Proofs.YtjohcnhiblfbnaaGreat
open Go.RowKit
def onceB : List ByteArray → List De → Bool
 | _, [] => true
 | seen, d :: l => !inB seen d.name && onceB (seen ++ [d.name]) l
theorem take_names {α β : Type} (f : α → β) (l : List α) {k : Nat} (h : k < l.length) : (l.take (k + 1)).map f = (l.take k).map f ++ [f l[k]] := by
 rw [List.take_succ_eq_append_getElem h, List.map_append]; rfl
set_option maxRecDepth 100000 in
set_option maxHeartbeats 1000000 in
theorem once_any (l : List De) (S : Nat → Prop) (w : World) (v : Value) (hS : ∀ k, S k → k < w.heap.size) (hp : RepDes S w l v) :
  Calls Tryz.prog 36 #[v] w fun e w' => e = .returned (.bool (onceB [] l)) ∧ Below w.heap.size w w' := by
 have hlb := SlG.bytes hp;have HA := Lib.hid hp;obtain ⟨f0, f1, rfl⟩ := SlG.form hp;clear hp;have hmm := @run_makeMap Tryz.prog;go_enter Tryz.func36, Tryz.ntmps36
 go_wp2_with fail
 have x0 := Lib.hid (setAt_new w);have d0 := Lib.hid ((Below.refl w.heap.size w).alloc (Nat.le_refl _) (.map #[] 0));generalize w.alloc (.map #[] 0) = w1 at *;clear hmm;go_loopw [9] (fun i wr => ∃ k : Nat, k ≤ l.length ∧ i = .int .i64 k ∧ Hid (onceB [] l = onceB ((l.take k).map De.name) (l.drop k)) ∧ Hid (SetAt wr w.heap.size k ((l.take k).map De.name)) ∧ Below w.heap.size w wr) (fun i _ => l.length - (intOf i).toNat)
 case atStart => exact ⟨0, Nat.zero_le _, rfl, rfl, x0.out, d0.out⟩
 case round =>
  obtain ⟨k, hk, rfl, hrec, hset, hbel⟩ := hrel
  by_cases hl : k < l.length
  ·have hA := (SlG.on (fun _ h => h) (fun j hj => hbel.block j (hS j hj)) (fun _ _ _ h => h) HA.out : RepDes S wr l (.slice f0 l.length f1))
   obtain ⟨-, -, b, o, rfl, hSb, g0, g1, g⟩ := RepDes.at hA k hl;have HD := Lib.hid (List.drop_eq_getElem_cons hl);have HT := Lib.hid (take_names De.name l hl);have HN := Lib.hid g.2.2.1;clear hA g hSb;generalize l[k] = z at *;have hba := below_alloc wr (.cells #[.string z.name, .int .i64 z.arity] 77);have hbx := boxDe_new wr (.string z.name) (.int .i64 z.arity);have HB := Lib.hid (Below.step hbel hba);have HS1 := Lib.hid (hset.out.on hba);obtain ⟨e0, e1⟩ := hbx.cells;have HX := Lib.hid hbx;clear hbel hba hbx hset;go_wp2_with fail
   clear g0 g1;generalize wr.alloc (.cells #[.string z.name, .int .i64 z.arity] 77) = wa at *;refine (has_any _ k _ z.name wa HN.out HS1.out).mono ?_;rintro e w3 ⟨rfl, hb3⟩;have HB3 := Lib.hid (Below.step HB.out hb3);have HS3 := Lib.hid (HS1.out.on hb3);have HX3 := Lib.hid (HX.out.on hb3);clear hb3 e0 e1;obtain ⟨e0, e1⟩ := HX3.out.cells
   cases hc : inB ((l.take k).map De.name) z.name with
   | true =>
    have HF : Hid (onceB [] l = false) := by show _ = _; rw [hrec.out, HD.out, onceB, hc]; rfl
    clear hc;go_wp2_with fail
    go_ret
    exact ⟨ret_bool HF.out.symm, HB3.out⟩
   | false =>
    have HF : Hid (onceB [] l = onceB ((l.take (k + 1)).map De.name) (l.drop (k + 1))) := by show _ = _; rw [hrec.out, HD.out, onceB, hc, HT.out]; rfl
    clear hc;go_wp2_with fail
    refine (add_any _ k _ z.name w3 (by unfold maxLen; omega) HN.out HS3.out).mono ?_;rintro e w4 ⟨rfl, hs4, hg4⟩;have HS4 : Hid (SetAt w4 w.heap.size (k + 1) ((l.take (k + 1)).map De.name)) := by show SetAt _ _ _ _; rw [HT.out]; exact hs4
    have HB4 := Lib.hid (HB3.out.grown hg4 HB3.out.size (fun j e => by cases e; exact Nat.le_refl _));clear hs4 hg4 e0 e1;go_wp2_with fail
    go_roundw
    case rel => exact ⟨k + 1, hl, by go_num, HF, HS4, HB4.out⟩
    case measure => simp [intOf]; omega
  ·have HF : Hid (onceB [] l = true) := by show _ = _; rw [hrec.out, List.drop_of_length_le (by omega)]; rfl
   go_wp2_with fail
   go_ret
   exact ⟨ret_bool HF.out.symm, hbel⟩
end Go.Proofs.YtjohcnhiblfbnaaGreat
namespace Go.Proofs.YtjohcnhiblfbnaaGreat
open Go.RowKit
def factB (l : List De) (t : Fa) : Bool := arityL l t.name == (t.args.length : Int)
set_option maxRecDepth 100000 in
set_option maxHeartbeats 1000000 in
theorem factsFit_any (p : Pr) (S : Nat → Prop) (w : World) (c0 c1 c2 : Value) (hS : ∀ k, S k → k < w.heap.size) (hp : RepPr S w p c0 c1 c2) :
  Calls Tryz.prog 37 #[.agg #[c0, c1, c2]] w fun e w' => e = .returned (.bool (p.facts.all (factB p.decls))) ∧ Below w.heap.size w w' := by
 have hlb := SlG.bytes hp.2.1;have HP := Lib.hid hp;obtain ⟨f0, f1, rfl⟩ := SlG.form hp.1;obtain ⟨f2, f3, rfl⟩ := SlG.form hp.2.1;obtain ⟨f4, f5, rfl⟩ := SlG.form hp.2.2;clear hp;go_enter Tryz.func37, Tryz.ntmps37
 go_wp2_with fail
 have x0 := boxPr_new w (.slice f0 p.decls.length f1) (.slice f2 p.facts.length f3) (.slice f4 p.rules.length f5);have d0 := below_alloc w (.cells #[.slice f0 p.decls.length f1, .slice f2 p.facts.length f3, .slice f4 p.rules.length f5] 26);generalize w.alloc (.cells #[.slice f0 p.decls.length f1, .slice f2 p.facts.length f3, .slice f4 p.rules.length f5] 26) = w1 at *;obtain ⟨p0, p1, p2⟩ := x0.cells;have HD0 := Lib.hid d0; have HX0 := Lib.hid x0
 have HP1 := Lib.hid (RepPr.on (S' := fun k => k < w.heap.size) hS (fun k hk => d0.block k (hS k hk)) HP.out);clear d0 x0 HP;go_wp2_with fail
 clear p0 p1 p2;go_loopw [8] (fun i wr => ∃ k : Nat, k ≤ p.facts.length ∧ i = .int .i64 k ∧ Hid (p.facts.all (factB p.decls) = (p.facts.drop k).all (factB p.decls)) ∧ Below w1.heap.size w1 wr) (fun i _ => p.facts.length - (intOf i).toNat)
 case atStart => exact ⟨0, Nat.zero_le _, rfl, rfl, Below.refl _ _⟩
 case round =>
  obtain ⟨k, hk, rfl, hrec, hbel⟩ := hrel;have HW := Lib.hid (show w.heap.size ≤ w1.heap.size from HD0.out.size)
  by_cases hl : k < p.facts.length
  ·have HP2 := Lib.hid (RepPr.on (fun _ h => h) (fun k hk => hbel.block k (Nat.lt_of_lt_of_le hk HW.out)) HP1.out)
   obtain ⟨-, -, b, o, ga, gc, rfl, hSb, g0, g1, g⟩ := RepFas.at HP2.out.2.1 k hl;have HD := Lib.hid (List.drop_eq_getElem_cons hl);clear g hSb;generalize p.facts[k] = z at *;have hba := below_alloc wr (.cells #[.string z.name, .slice ga z.args.length gc] 68);have hbx := boxFa_new wr (.string z.name) (.slice ga z.args.length gc);have HB := Lib.hid (Below.step hbel hba);have HP3 := Lib.hid (RepPr.on (fun _ h => h) (fun k hk => hba.block k (Nat.lt_of_lt_of_le hk (Nat.le_trans HW.out hbel.size))) HP2.out);obtain ⟨e0, e1⟩ := hbx.cells;obtain ⟨p0, p1, p2⟩ := (HX0.out.on (Below.step hbel hba)).cells;clear hba hbx HP2;go_wp2_with fail
   clear g0 g1;generalize wr.alloc (.cells #[.string z.name, .slice ga z.args.length gc] 68) = wa at *;refine (fits_any p z.name (z.args.length : Int) (fun k => k < w.heap.size) wa _ _ _ (fun k hk => Nat.lt_of_lt_of_le hk (Nat.le_trans HW.out HB.out.size)) HP3.out).mono ?_;rintro e w3 ⟨rfl, hb3⟩;have HB3 := Lib.hid (Below.step HB.out hb3);clear hb3 e0 e1 p0 p1 p2 hbel
   cases hc : (arityL p.decls z.name == (z.args.length : Int)) with
   | false =>
    have HF : Hid (p.facts.all (factB p.decls) = false) := by show _ = _; rw [hrec.out, HD.out, List.all_cons, factB, hc]; rfl
    clear hc;go_wp2_with fail
    go_ret
    exact ⟨ret_bool HF.out.symm, Below.step HD0.out HB3.out⟩
   | true =>
    have HF : Hid (p.facts.all (factB p.decls) = (p.facts.drop (k + 1)).all (factB p.decls)) := by show _ = _; rw [hrec.out, HD.out, List.all_cons, factB, hc]; rfl
    clear hc;go_wp2_with fail
    go_roundw
    case rel => exact ⟨k + 1, hl, by go_num, HF, HB3.out⟩
    case measure => simp [intOf]; omega
  ·have HF : Hid (p.facts.all (factB p.decls) = true) := by show _ = _; rw [hrec.out, List.drop_of_length_le (by omega)]; rfl
   go_wp2_with fail
   go_ret
   exact ⟨ret_bool HF.out.symm, Below.step HD0.out hbel⟩
def bodyLiB (l : List De) (x : Li) : Bool := if x.kind = 1 ∨ x.kind = 2 then arityL l x.name == (x.args.length : Int) else true
set_option maxRecDepth 100000 in
set_option maxHeartbeats 1000000 in
theorem bodyFits_any (p : Pr) (l : List Li) (S : Nat → Prop) (w : World) (c0 c1 c2 v : Value) (hS : ∀ k, S k → k < w.heap.size) (hp : RepPr S w p c0 c1 c2) (hl : RepLis S w l v) :
  Calls Tryz.prog 62 #[.agg #[c0, c1, c2], v] w fun e w' => e = .returned (.bool (l.all (bodyLiB p.decls))) ∧ Below w.heap.size w w' := by
 have hlb := SlG.bytes hl;have HP := Lib.hid hp; have HL := Lib.hid hl
 obtain ⟨f0, f1, rfl⟩ := SlG.form hp.1;obtain ⟨f2, f3, rfl⟩ := SlG.form hp.2.1;obtain ⟨f4, f5, rfl⟩ := SlG.form hp.2.2;obtain ⟨f6, f7, rfl⟩ := SlG.form hl;clear hp hl;go_enter Tryz.func62, Tryz.ntmps62
 go_wp2_with fail
 have x0 := boxPr_new w (.slice f0 p.decls.length f1) (.slice f2 p.facts.length f3) (.slice f4 p.rules.length f5);have d0 := below_alloc w (.cells #[.slice f0 p.decls.length f1, .slice f2 p.facts.length f3, .slice f4 p.rules.length f5] 26);generalize w.alloc (.cells #[.slice f0 p.decls.length f1, .slice f2 p.facts.length f3, .slice f4 p.rules.length f5] 26) = w1 at *;have HD0 := Lib.hid d0; have HX0 := Lib.hid x0
 have HP1 := Lib.hid (RepPr.on (S' := fun k => k < w.heap.size) hS (fun k hk => d0.block k (hS k hk)) HP.out);have HL1 := Lib.hid (SlG.on (S' := fun k => k < w.heap.size) hS (fun k hk => d0.block k (hS k hk)) (fun x _ c hx => RepLi.on hS (fun k hk => d0.block k (hS k hk)) hx) HL.out : RepLis (fun k => k < w.heap.size) w1 l (.slice f6 l.length f7));clear d0 x0 HP HL;go_loopw [9] (fun i wr => ∃ k : Nat, k ≤ l.length ∧ i = .int .i64 k ∧ Hid (l.all (bodyLiB p.decls) = (l.drop k).all (bodyLiB p.decls)) ∧ Below w1.heap.size w1 wr) (fun i _ => l.length - (intOf i).toNat)
 case atStart => exact ⟨0, Nat.zero_le _, rfl, rfl, Below.refl _ _⟩
 case round =>
  obtain ⟨k, hk, rfl, hrec, hbel⟩ := hrel;have HW := Lib.hid (show w.heap.size ≤ w1.heap.size from HD0.out.size)
  by_cases hl : k < l.length
  ·have HP2 := Lib.hid (RepPr.on (fun _ h => h) (fun k hk => hbel.block k (Nat.lt_of_lt_of_le hk HW.out)) HP1.out)
   have hA := (SlG.on (fun _ h => h) (fun k hk => hbel.block k (Nat.lt_of_lt_of_le hk HW.out)) (fun x _ c hx => RepLi.on (fun _ h => h) (fun k hk => hbel.block k (Nat.lt_of_lt_of_le hk HW.out)) hx) HL1.out : RepLis (fun k => k < w.heap.size) wr l (.slice f6 l.length f7));obtain ⟨-, -, b, o, ga, gc, rfl, hSb, g0, g1, g2, g⟩ := RepLis.at hA k hl;have HD := Lib.hid (List.drop_eq_getElem_cons hl);clear g hSb hA;generalize l[k] = z at *;have hba := below_alloc wr (.cells #[.int .i64 z.kind, .string z.name, .slice ga z.args.length gc] 63);have hbx := boxLi_new wr (.int .i64 z.kind) (.string z.name) (.slice ga z.args.length gc);have HB := Lib.hid (Below.step hbel hba);have HP3 := Lib.hid (RepPr.on (fun _ h => h) (fun k hk => hba.block k (Nat.lt_of_lt_of_le hk (Nat.le_trans HW.out hbel.size))) HP2.out);obtain ⟨e0, e1, e2⟩ := hbx.cells;obtain ⟨p0, p1, p2⟩ := (HX0.out.on (Below.step hbel hba)).cells;clear hba hbx HP2
   by_cases hkd : z.kind = 1 ∨ z.kind = 2
   ·have HLB : Hid (bodyLiB p.decls z = (arityL p.decls z.name == (z.args.length : Int))) := by show _ = _; rw [bodyLiB, if_pos hkd]
    have hk1 : (z.kind == 1) = true ∨ ((z.kind == 1) = false ∧ (z.kind == 2) = true) := by
     rcases hkd with h | h <;> simp [h]
    clear hkd;rcases hk1 with hk1 | ⟨hk1, hk2⟩
    all_goals
     go_wp2_with fail
     clear g0 g1 g2;generalize wr.alloc (.cells #[.int .i64 z.kind, .string z.name, .slice ga z.args.length gc] 63) = wa at *;refine (fits_any p z.name (z.args.length : Int) (fun k => k < w.heap.size) wa _ _ _ (fun k hk => Nat.lt_of_lt_of_le hk (Nat.le_trans HW.out HB.out.size)) HP3.out).mono ?_;rintro e w3 ⟨rfl, hb3⟩;have HB3 := Lib.hid (Below.step HB.out hb3);clear hb3 e0 e1 e2 p0 p1 p2 hbel
     cases hc : (arityL p.decls z.name == (z.args.length : Int)) with
     | false =>
      have HF : Hid (l.all (bodyLiB p.decls) = false) := by show _ = _; rw [hrec.out, HD.out, List.all_cons, HLB.out, hc]; rfl
      clear hc;go_wp2_with fail
      go_ret
      exact ⟨ret_bool HF.out.symm, Below.step HD0.out HB3.out⟩
     | true =>
      have HF : Hid (l.all (bodyLiB p.decls) = (l.drop (k + 1)).all (bodyLiB p.decls)) := by show _ = _; rw [hrec.out, HD.out, List.all_cons, HLB.out, hc]; rfl
      clear hc;go_wp2_with fail
      go_roundw
      case rel => exact ⟨k + 1, hl, by go_num, HF, HB3.out⟩
      case measure => simp [intOf]; omega
   ·have HF : Hid (l.all (bodyLiB p.decls) = (l.drop (k + 1)).all (bodyLiB p.decls)) := by show _ = _; rw [hrec.out, HD.out, List.all_cons, bodyLiB, if_neg hkd]; rfl
    have hk1 : (z.kind == 1) = false := by simp; omega
    have hk2 : (z.kind == 2) = false := by simp; omega
    clear hkd;go_wp2_with fail
    go_roundw
    case rel => exact ⟨k + 1, hl, by go_num, HF, HB.out⟩
    case measure => simp [intOf]; omega
  ·have HF : Hid (l.all (bodyLiB p.decls) = true) := by show _ = _; rw [hrec.out, List.drop_of_length_le (by omega)]; rfl
   go_wp2_with fail
   go_ret
   exact ⟨ret_bool HF.out.symm, Below.step HD0.out hbel⟩
end Go.Proofs.YtjohcnhiblfbnaaGreat
