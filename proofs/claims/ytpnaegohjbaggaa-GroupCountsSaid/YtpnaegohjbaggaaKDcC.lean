/-
  GrLawE, OwnSlgS, GrLawC, LawGCounts, CardGCounts
-/
import Derived.Test.YtpnaegohjbaggaaKD24
import Derived.Test.YtpnaegohjbaggaaKD08
namespace Go.Proofs.Ytpnaegohjbaggaa
open Go.RowKit
def argR (n : Nat) (x : Ro) : V := x.args.getD n (.mk 0 0 ⟨#[]⟩ [])
theorem argR_at {n : Nat} {x : Ro} (h : n < x.args.length) : argR n x = x.args[n] := by unfold argR; rw [List.getD_eq_getElem?_getD, List.getElem?_eq_getElem h]; rfl
open Classical in
noncomputable def thereB (n : Nat) (x : Ro) (l : List Ro) : Bool := decide (∃ y ∈ l, AlikeP (n : Int) x y ∧ cmpV (argR n y) (argR n x) = 0)
theorem thereB_nil (n : Nat) (x : Ro) : thereB n x [] = false := by unfold thereB; simp
theorem thereB_yes {n : Nat} {x : Ro} {l : List Ro} (h : ∃ y ∈ l, AlikeP (n : Int) x y ∧ cmpV (argR n y) (argR n x) = 0) : thereB n x l = true := by unfold thereB; simp only [decide_eq_true_eq]; exact h
theorem thereB_hit {n : Nat} {x y : Ro} {l : List Ro} (h1 : AlikeP (n : Int) x y) (h2 : cmpV (argR n y) (argR n x) = 0) : thereB n x (l ++ [y]) = true := thereB_yes ⟨y, by simp, h1, h2⟩
theorem thereB_miss {n : Nat} {x y : Ro} {l : List Ro} (h : ¬ (AlikeP (n : Int) x y ∧ cmpV (argR n y) (argR n x) = 0)) : thereB n x (l ++ [y]) = thereB n x l := by
 unfold thereB
 congr 1
 refine propext ⟨fun ⟨z, hz, a, c⟩ => ?_, fun ⟨z, hz, a, c⟩ => ⟨z, List.mem_append_left _ hz, a, c⟩⟩;rcases List.mem_append.1 hz with hz | hz
 ·exact ⟨z, hz, a, c⟩
 ·rw [List.mem_singleton.1 hz] at a c; exact absurd ⟨a, c⟩ h
def EndsI (n : Nat) (s : Int) (L G : List Ro) : Prop := ∀ x ∈ G, n < x.args.length ∧ thereB n x L = true ∧ ∀ y ∈ L, AlikeP (n : Int) x y → cmpV (argR n y) (argR n x) * s ≤ 0
theorem ends_min {n : Nat} {L G : List Ro} (hl : ∀ x ∈ L, rightRo x) (h : GroupIs sMin n L G) : EndsI n (-1) L G := fun x hx => by
 obtain ⟨hn, ⟨y, hy, ha, hyn, hc⟩, hall⟩ := group_min sMin_l hl h x hx;refine ⟨hn, thereB_yes ⟨y, hy, ha, by rw [argR_at hyn, argR_at hn]; exact hc⟩, fun z hz za => ?_⟩;have hzn : n < z.args.length := by rw [← za.2.1]; exact hn
 have := hall z hz za hzn;rw [argR_at hzn, argR_at hn]; omega
theorem ends_max {n : Nat} {L G : List Ro} (hl : ∀ x ∈ L, rightRo x) (h : GroupIs sMax n L G) : EndsI n 1 L G := fun x hx => by
 obtain ⟨hn, ⟨y, hy, ha, hyn, hc⟩, hall⟩ := group_max sMax_l hl h x hx;refine ⟨hn, thereB_yes ⟨y, hy, ha, by rw [argR_at hyn, argR_at hn]; exact hc⟩, fun z hz za => ?_⟩;have hzn : n < z.args.length := by rw [← za.2.1]; exact hn
 have := hall z hz za hzn;rw [argR_at hzn, argR_at hn]; omega
theorem arg_of {S : Nat → Prop} {w : World} {x : Ro} {a : Option Addr} {c : Nat} (h : RepRo S w x (.string x.name) (.slice a x.args.length c) (.int .i64 x.stamp)) {n : Nat} (hn : n < x.args.length) :
  ∃ ub uo va vc, a = some ⟨ub, uo, none⟩ ∧ w.cell? ⟨ub, uo + n * 4, none⟩ = some (.int .i64 (argR n x).kind) ∧ w.cell? ⟨ub, uo + n * 4 + 1, none⟩ = some (.int .i64 (argR n x).num) ∧ w.cell? ⟨ub, uo + n * 4 + 2, none⟩ = some (.string (argR n x).text) ∧ w.cell? ⟨ub, uo + n * 4 + 3, none⟩ = some (.slice va (argR n x).list.length vc) ∧
   RepG S w (argR n x) (.int .i64 (argR n x).kind) (.int .i64 (argR n x).num) (.string (argR n x).text) (.slice va (argR n x).list.length vc) := by
 obtain ⟨ub, uo, uc, va, vc, e, -, u0, u1, u2, u3, hu⟩ := arg_at (x := (x, .slice a x.args.length c)) h hn
 injection e with e1 e2 e3
 subst e1;rw [argR_at hn];exact ⟨ub, uo, va, vc, rfl, u0, u1, u2, u3, hu⟩
end Go.Proofs.Ytpnaegohjbaggaa
namespace Go.Proofs.Ytpnaegohjbaggaa
open Go.RowKit
section
variable {α : Type} {K : Kd α} {S : Nat → Prop}
theorem OwnK.slgS {w : World} {B : Nat} {l : List α} {v : Value} (h : OwnK K S w B l v) (hby : l.length * K.bytes ≤ 140737488355328) : SlG (fun b => S b ∨ (B ≤ b ∧ b < w.heap.size)) w K.n K.bytes (K.R (fun b => S b ∨ (B ≤ b ∧ b < w.heap.size)) w) l v := by
 obtain ⟨xs, ⟨hlen, hown⟩, hr⟩ := h;rcases hown with ⟨rfl, hn⟩ | ⟨g, cap, cur, rfl, hbg, hh, hnc, hcm, hcs, htk⟩
 ·obtain rfl : l = [] := List.length_eq_zero_iff.1 hn
  exact ⟨none, 0, 0, 0, rfl, Nat.le_refl _, by simp, fun h => by omega, fun h => by simp at h, fun i hi => by simp at hi⟩
 ·have hgl := (Array.getElem?_eq_some_iff.1 hh).1
  refine ⟨_, g, 0, cap, rfl, hnc, hby, fun _ => rfl, fun _ => .inr ⟨hbg, hgl⟩, fun i hi => ?_⟩;obtain ⟨c, hc, hR⟩ := hr i hi;refine ⟨c, fun j hj => ?_, K.on (fun k hk => .inl hk) (fun _ _ => rfl) hR⟩;have h1 := hc j hj;rw [← htk, List.getElem?_take] at h1
  have hlt : i * K.n + j < l.length * K.n := by
   have : (i + 1) * K.n ≤ l.length * K.n := Nat.mul_le_mul_right _ hi;rw [Nat.succ_mul] at this; omega
  rw [if_pos hlt] at h1;rw [show 0 + i * K.n + j = i * K.n + j by omega];exact cell_of_block' hh _ (by rw [← Array.getElem?_toList]; exact h1)
end
end Go.Proofs.Ytpnaegohjbaggaa
namespace Go.Proofs.Ytpnaegohjbaggaa
open Go.RowKit
theorem append_ros {w : World} {L M : List Ro} {a b : Option Addr} {c d : Nat} (hL : RosP L w (.slice a L.length c)) (hM : RosP M w (.slice b M.length d)) (hl : L.length + M.length ≤ 1000) (ty : TypeId) :
  ∃ (a6 : Option Addr) (c6 : Nat) (w6 : World) (a7 : Option Addr) (c7 : Nat) (w7 : World), (Builtin.append_ #[40, 40] ty #[.slice none 0 0, .slice a L.length c]).run Try.prog w = .ok (.slice a6 L.length c6) w6 ∧
   (Builtin.append_ #[40, 40] ty #[.slice a6 L.length c6, .slice b M.length d]).run Try.prog w6 = .ok (.slice a7 (L ++ M).length c7) w7 ∧ RosP (L ++ M) w7 (.slice a7 (L ++ M).length c7) ∧ Below w.heap.size w w7 := by
 obtain ⟨v6, w6, hrun6, hown6, hgr6, -⟩ := own_manyH (K := kdRo) (S := fun b => b < w.heap.size) (S1 := fun b => b < w.heap.size) (L := []) (m := L) (lv := .slice none 0 0) (w := w) (base := w.heap.size) (OwnK.nil _ _ _) hL (fun k hk => ⟨hk, by simp [Value.ownBlock]⟩) (Nat.le_refl _) (by simp; omega) ty;have hb6 : Below w.heap.size w w6 := ⟨hgr6.os, hgr6.tape, hgr6.output, hgr6.size, fun k hk => hgr6.block k hk (by simp [Value.ownBlock])⟩;rw [List.nil_append] at hown6;obtain ⟨a6, c6, rfl⟩ := OwnK.form hown6;have h6 : SlG (fun b => b < w.heap.size) w6 kdRo.n kdRo.bytes (kdRo.R (fun b => b < w.heap.size) w6) M (.slice b M.length d) := SlG.on (fun _ h => h) (fun k hk => hb6.block k hk) (fun _ _ _ h => kdRo.on (fun _ h => h) (fun k hk => hb6.block k hk) h) hM;obtain ⟨v7, w7, hrun7, hown7, hgr7, -⟩ := own_manyH (K := kdRo) (S := fun b => b < w.heap.size) (S1 := fun b => b < w.heap.size) (L := L) (m := M) (base := w.heap.size) hown6 h6 (fun k hk => ⟨Nat.lt_of_lt_of_le hk hb6.size, fun e => by have := (OwnK.lies hown6 k e).1; omega⟩) hb6.size (by omega) ty;obtain ⟨a7, c7, rfl⟩ := OwnK.form hown7;refine ⟨a6, c6, w6, a7, c7, w7, hrun6, hrun7, ?_, ?_⟩
 ·exact RosP.of (OwnK.slgS hown7 (by show (L ++ M).length * 48 ≤ _; rw [List.length_append]; omega)) (fun k hk => by rcases hk with hk | hk; exact Nat.lt_of_lt_of_le hk (Nat.le_trans hb6.size hgr7.size); exact hk.2)
 ·exact ⟨hgr7.os.trans hb6.os, hgr7.tape.trans hb6.tape, hgr7.output.trans hb6.output, Nat.le_trans hb6.size hgr7.size, fun k hk => (hgr7.block k (Nat.lt_of_lt_of_le hk hb6.size) (fun e => by have := (OwnK.lies hown6 k e.symm).1; omega)).trans (hb6.block k hk)⟩
theorem merge_merge {l m q : List Ro} (h : MergeIs l m) (k : MergeIs m q) : MergeIs l q where
 rise := k.rise
 there := fun r hr => h.there r (k.there r hr)
 best := fun x hx => by
  obtain ⟨r, hr, e, s⟩ := h.best x hx;obtain ⟨p, hp, e2, s2⟩ := k.best r hr;exact ⟨p, hp, by have := (ord_cmpRo p r x).eqv e2; omega, by omega⟩
def cntN (n : Nat) (l : List Ro) : Nat := (l.map fun g => (argR n g).num.toNat).sum
def hasN (n : Nat) (l : List Ro) : Nat := (l.filter fun r => decide (n < r.args.length)).length
theorem cntN_snoc (n : Nat) (l : List Ro) {i : Nat} (h : i < l.length) : cntN n (l.take (i + 1)) = cntN n (l.take i) + (argR n l[i]).num.toNat := by
 unfold cntN; rw [List.take_succ_eq_append_getElem h, List.map_append, List.sum_append]; simp
theorem cntN_le (n : Nat) (l : List Ro) (i : Nat) : cntN n (l.take i) ≤ cntN n l := by
 conv => rhs; rw [← List.take_append_drop i l]
 unfold cntN; rw [List.map_append, List.sum_append]; omega
theorem hasN_yes (n : Nat) (l : List Ro) {i : Nat} (h : i < l.length) (hn : n < l[i].args.length) : hasN n (l.take (i + 1)) = hasN n (l.take i) + 1 := by
 unfold hasN; rw [List.take_succ_eq_append_getElem h, List.filter_append, List.length_append]; simp [hn]
theorem hasN_no (n : Nat) (l : List Ro) {i : Nat} (h : i < l.length) (hn : ¬ n < l[i].args.length) : hasN n (l.take (i + 1)) = hasN n (l.take i) := by
 unfold hasN; rw [List.take_succ_eq_append_getElem h, List.filter_append, List.length_append]; simp [hn]
theorem hasN_le (n : Nat) (l : List Ro) (i : Nat) : hasN n (l.take i) ≤ i := by
 unfold hasN;exact Nat.le_trans (List.length_filter_le _ _) (by rw [List.length_take]; omega)
theorem merge_len {l R : List Ro} (h : MergeIs l R) : R.length ≤ l.length := few_of R l (h.rise.imp fun {a b} hab e => by rw [e] at hab; exact cmpRo_irr b hab) h.there
theorem group_cnt {n : Nat} {l G : List Ro} (h : GroupIs sCount n l G) : (∀ g ∈ G, n < g.args.length ∧ ∃ c : Nat, 1 ≤ c ∧ argR n g = numN (c : Int)) ∧ ∃ R, MergeIs l R ∧ cntN n G = hasN n R := by
 obtain ⟨R, C, hR, hC, hsum, hp⟩ := group_count sCount_l h
 have hat : ∀ g ∈ G, n < g.args.length ∧ ∃ c : Nat, 1 ≤ c ∧ argR n g = numN (c : Int) := fun g hg => by
  have hm : g.args[n]? ∈ G.map fun g => g.args[n]? := List.mem_map.2 ⟨g, hg, rfl⟩
  obtain ⟨c, hc, e⟩ := List.mem_map.1 (hp.mem_iff.1 hm);obtain ⟨hn, e2⟩ := List.getElem?_eq_some_iff.1 e.symm;exact ⟨hn, c, hC c hc, by rw [argR_at hn]; exact e2⟩
 refine ⟨hat, R, hR, ?_⟩;rw [hasN, ← hsum]
 have e1 : G.map (fun g => (argR n g).num.toNat) = (G.map fun g => g.args[n]?).map (fun o => (o.getD (.mk 0 0 ⟨#[]⟩ [])).num.toNat) := by
  rw [List.map_map];exact List.map_congr_left fun g hg => by simp [argR, List.getD_eq_getElem?_getD]
 have e2 : C = (C.map fun (c : Nat) => some (numN (c : Int))).map (fun o => (o.getD (.mk 0 0 ⟨#[]⟩ [])).num.toNat) := by
  rw [List.map_map]
  conv => lhs; rw [← List.map_id C]
  exact List.map_congr_left fun c hc => (by show c = (Int.toNat (c : Int)); simp)
 rw [cntN, e1]
 conv => rhs; rw [e2]
 exact (hp.map _).sum_nat
theorem counts_all {n : Nat} {l m R G : List Ro} (hl : ∀ x ∈ l, rightRo x) (hm : ∀ x ∈ m, rightRo x) (h1 : ∀ x ∈ l, x ∈ m) (h2 : ∀ x ∈ m, x ∈ l) (hR : MergeIs l R) (h : GroupIs sCount n m G) : cntN n G = hasN n R := by
 obtain ⟨-, Q, hQ, e⟩ := group_cnt h;rw [e, merge_one hl hm hR hQ h1 h2]
theorem counts_one {s : ByteArray} {n : Nat} {l m R G H : List Ro} (hs : AggName s) (hl : ∀ x ∈ l, rightRo x) (hm : ∀ x ∈ m, rightRo x) (h1 : ∀ x ∈ l, x ∈ m) (h2 : ∀ x ∈ m, x ∈ l) (hR : MergeIs l R) (h : GroupIs s n m G) (k : GroupIs s n R H) : G = H :=
 group_one hs hm (fun x hx => hl x (hR.there x hx)) h k fun _A _B a b => merge_one hm hl a (merge_merge hR b) h2 h1
end Go.Proofs.Ytpnaegohjbaggaa
namespace Go.Proofs.Ytpnaegohjbaggaa.groupCounts
open Go.RowKit
set_option maxRecDepth 100000 in
set_option maxHeartbeats 8000000 in
theorem walk (facts : List Rw) (at_ : Int) (W : World) (va : Value) (gf : RepRws (fun k => k < W.heap.size) W facts va) (hat : I64 at_) :
  Calls Try.prog 6 #[va, .int .i64 at_] W fun e W' => e = .returned (.bool true) ∧ Below W.heap.size W W' := by
 obtain ⟨qa, qc, rfl⟩ := SlG.form gf;have GF := Lib.hid gf;have HAT := Lib.hid hat;clear gf hat;go_enter Try.func6, Try.ntmps6
 go_wp2_with fail
 refine (awake11_any W).mono ?_;rintro e w1 ⟨rfl, hb⟩;have B := Lib.hid hb;clear hb;go_wp2_with fail
 refine (rows_any facts (fun k => k < W.heap.size) w1 _ (fun k hk => Nat.lt_of_lt_of_le hk B.out.size) (SlG.on (fun _ h => h) (fun k hk => B.out.block k hk) (fun _ _ _ h => h) GF.out)).mono ?_;rintro e w2 ⟨hb, lv, rfl, hm⟩;have HR := Lib.hid (right_rowsZ facts);have HST := Lib.hid (stamp_rowsZ facts);have HL40 := Lib.hid (len_rowsZ facts);have hros : RosP (rowsZ facts) w2 lv := RosP.of (MineS.slg hm (by have := HL40.out; omega)) (fun k hk => hk.2);replace B := Lib.hid (Below.step B.out hb);clear hm hb GF;generalize rowsZ facts = L at *;obtain ⟨la, lc, rfl⟩ := SlG.form hros;have HL := Lib.hid hros;have hL63 : L.length ≤ 40 := HL40.out;clear hros;obtain ⟨n, hn, hn2⟩ := pick_nat at_ 2 (by omega);have hwr := wrap_one n hn2;obtain ⟨ka, hK⟩ : ∃ ka, n + 1 = ka := ⟨_, rfl⟩;rw [hK] at hwr;have HK : Hid (1 ≤ ka ∧ ka ≤ 2) := ⟨by omega, by omega⟩;have HN : Hid (pickZ at_ ((2 : Nat) : Int) = (n : Int)) := hn;clear hn hn2 hK;go_wp2_with fail
 refine (pick11_any at_ 2 w2 HAT.out (by omega) (by omega)).mono ?_;rintro e w3 ⟨rfl, rfl⟩;rw [show pickZ at_ 2 = (n : Int) from HN.out];clear HN;go_wp2_with fail
 clear hwr;refine (Merge_any L (fun k => k < w2.heap.size) w2 _ (fun _ h => h) HL.out).mono ?_;intro e w3 hpost;obtain ⟨hb, R, v, hm, rfl, hv⟩ := MergePost.slg hpost;clear hpost;have HM := Lib.hid hm;have hros : RosP R w3 v := RosP.of hv (fun k hk => hk.2);obtain ⟨ra, rc, rfl⟩ := SlG.form hros;have HR5 := Lib.hid hros;have hR63 : R.length ≤ 40 := by have := merge_len hm; omega
 replace HL : Hid (RosP L w3 (.slice la L.length lc)) := HL.out.on hb;replace B := Lib.hid (Below.step B.out hb);clear hb hm hv hros;go_wp2_with fail
 go_loopw [9, 10] (fun nv iv wr => ∃ i : Nat, i ≤ R.length ∧ iv = .int .i64 (i : Int) ∧ nv = .int .i64 ((hasN ka (R.take i) : Nat) : Int) ∧ Hid (Below w3.heap.size w3 wr)) (fun _ iv _ => R.length - (intOf iv).toNat)
 case atStart => exact ⟨0, Nat.zero_le _, rfl, rfl, Below.refl _ _⟩
 case round =>
  obtain ⟨i, hi, rfl, rfl, hbq⟩ := hrel
  by_cases hlq : i < R.length
  ·have hle := hasN_le ka R i
   have HY := Lib.hid (fun h => hasN_yes ka R hlq h); have HN := Lib.hid (fun h => hasN_no ka R hlq h)
   obtain ⟨xb, xo, xf, xc, hex, hSx, x0, x1, x2, hx, -⟩ := RosP.at HR5.out hbq.out i hlq;subst hex;have k1 : decide ((i : Int) < (R.length : Int)) = true := decide_eq_true (by omega);have k2 : decide (i < R.length) = true := decide_eq_true (by omega);have k3 : (0 : Int) ≤ (i : Int) := Int.natCast_nonneg _;have k4 : (i : Int) < (R.length : Int) := by omega
   clear hx hSx hi;generalize hxx : R[i] = x at *;have HLQ := Lib.hid hlq;clear hxx hlq;obtain ⟨m, hm⟩ : ∃ m, hasN ka (R.take i) = m := ⟨_, rfl⟩;rw [hm] at HY HN hle ⊢;clear hm
   by_cases hc : ka < x.args.length
   ·have k5 : decide ((ka : Int) < (x.args.length : Int)) = true := decide_eq_true (by omega)
    have k6 : decide (ka < x.args.length) = true := decide_eq_true hc;have k7 : IntKind.i64.wrap ((m : Int) + 1) = ((m + 1 : Nat) : Int) := by rw [IntKind.wrap_i64]; omega
    have HC := Lib.hid hc;clear hc;go_wp2_with fail
    go_roundw
    case rel => exact ⟨i + 1, HLQ.out, by go_num, by rw [HY.out HC.out]; first | rfl | go_num, hbq.out⟩
    case measure => have := HLQ.out; simp [intOf]; omega
   ·have k5 : decide ((ka : Int) < (x.args.length : Int)) = false := decide_eq_false (by omega)
    have k6 : decide (ka < x.args.length) = false := decide_eq_false hc;have HC := Lib.hid hc;clear hc;go_wp2_with fail
    go_roundw
    case rel => exact ⟨i + 1, HLQ.out, by go_num, by rw [HN.out HC.out], hbq.out⟩
    case measure => have := HLQ.out; simp [intOf]; omega
  ·have hil : i = R.length := by omega
   have k1 : decide ((i : Int) < (R.length : Int)) = false := decide_eq_false (by omega);have k2 : decide (i < R.length) = false := decide_eq_false (by omega);have HE : Hid (hasN ka (R.take i) = hasN ka R) := by show _ = _; rw [hil, List.take_length]
   rw [HE.out];clear hi hlq hil HE;obtain ⟨a6, c6, w6, a7, c7, w7, hrun6, hrun7, hr7, hb7⟩ := append_ros (HL.out.on hbq.out) (HL.out.on hbq.out) (by omega) 40;have H6 := Lib.hid hrun6; have H7 := Lib.hid hrun7; have HD := Lib.hid hr7
   have HRW : Hid (RosP R w7 (.slice ra R.length rc)) := HR5.out.on (Below.step hbq.out hb7);have HBW := Lib.hid (Below.step hbq.out hb7);clear hrun6 hrun7 hr7 hb7 hbq HL HR5;obtain ⟨n7, hn7⟩ : ∃ n, (L ++ L).length = n := ⟨_, rfl⟩;rw [hn7] at H7 HD;have HN7 := Lib.hid hn7;clear hn7;go_wp2_with (first | (at_builtin; refine wpList_append_by rfl _ _ _ rfl rfl rfl H6.out ?_; clear H6) | (at_builtin; refine wpList_append_by rfl _ _ _ rfl rfl rfl H7.out ?_; clear H7))
   refine (group_any sCount (ka : Int) (L ++ L) (fun k => k < w7.heap.size) w7 _ (by have := HK.out; unfold I64; omega) (fun _ h => h) HD.out).mono ?_;rintro e w8 ⟨hb, G, v, rfl, -, hgi, hv⟩;have hgi := hgi agg_count (by have := HK.out; omega);rw [Int.toNat_natCast] at hgi;have HGI := Lib.hid hgi;have hros : RosP G w8 v := RosP.of hv (fun k hk => hk.2);obtain ⟨ga, gc, rfl⟩ := SlG.form hros;have HG := Lib.hid hros;have hG63 : G.length * 48 ≤ 140737488355328 := SlG.bytes hros;replace HRW : Hid (RosP R w8 (.slice ra R.length rc)) := HRW.out.on hb;have HB8 := Lib.hid (Below.step HBW.out hb);have HLL : Hid (∀ x ∈ L ++ L, rightRo x) := fun x hx => by rcases List.mem_append.1 hx with h | h <;> exact HR.out x h
   have HTO : Hid (cntN ka G = hasN ka R) := counts_all HR.out HLL.out (fun x hx => List.mem_append_left _ hx) (fun x hx => by rcases List.mem_append.1 hx with h | h <;> exact h) HM.out hgi;have HCN := Lib.hid (group_cnt hgi).1;have hT : cntN ka G ≤ 40 := by rw [HTO.out]; exact Nat.le_trans (by have := hasN_le ka R R.length; rw [List.take_length] at this; exact this) hR63
   clear hb hgi hv hros HBW HD;go_wp2_with fail
   go_loopw [12, 13] (fun nv iv wr => ∃ i : Nat, i ≤ G.length ∧ iv = .int .i64 (i : Int) ∧ nv = .int .i64 ((cntN ka (G.take i) : Nat) : Int) ∧ Hid (Below w8.heap.size w8 wr)) (fun _ iv _ => G.length - (intOf iv).toNat)
   case atStart => exact ⟨0, Nat.zero_le _, rfl, rfl, Below.refl _ _⟩
   case round =>
    obtain ⟨i, hi, rfl, rfl, hbq⟩ := hrel
    by_cases hlq : i < G.length
    ·have hle := cntN_le ka G (i + 1)
     have hsn := cntN_snoc ka G hlq;obtain ⟨hxn, c, hc1, hxc⟩ := HCN.out G[i] (List.getElem_mem hlq);obtain ⟨xb, xo, xf, xc, hex, hSx, x0, x1, x2, hx, -⟩ := RosP.at HG.out hbq.out i hlq;subst hex;have k1 : decide ((i : Int) < (G.length : Int)) = true := decide_eq_true (by omega);have k2 : decide (i < G.length) = true := decide_eq_true (by omega);have k3 : (0 : Int) ≤ (i : Int) := Int.natCast_nonneg _;have k4 : (i : Int) < (G.length : Int) := by omega
     obtain ⟨ub, uo, ua, uac, hue, u0, u1, u2, u3, -⟩ := arg_of hx hxn;subst hue;rw [hxc] at u0 u1 u2 u3 hsn;have hsn2 : cntN ka (G.take (i + 1)) = cntN ka (G.take i) + c := hsn;clear hx hSx hi hxc hsn;generalize hxx : G[i] = x at *;have HLQ := Lib.hid hlq;clear hxx hlq;obtain ⟨m, hm⟩ : ∃ m, cntN ka (G.take i) = m := ⟨_, rfl⟩;rw [hm] at hsn2 ⊢;clear hm;simp only [numN] at u0 u1 u2 u3
     have u0' : wr.cell? ⟨ub, uo + ka * 4, none⟩ = some (.int .i64 1) := u0;have u1' : wr.cell? ⟨ub, uo + ka * 4 + 1, none⟩ = some (.int .i64 (c : Int)) := u1;have u2' : wr.cell? ⟨ub, uo + ka * 4 + 2, none⟩ = some (.string ⟨#[]⟩) := u2;have u3' : wr.cell? ⟨ub, uo + ka * 4 + 3, none⟩ = some (.slice ua 0 uac) := u3;clear u0 u1 u2 u3;have k5 : (0 : Int) ≤ (ka : Int) := Int.natCast_nonneg _;have k6 : (ka : Int) < (x.args.length : Int) := by omega
     have k7 : decide ((c : Int) < 1) = false := decide_eq_false (by omega);have k8 : IntKind.i64.wrap ((m : Int) + (c : Int)) = ((m + c : Nat) : Int) := by rw [IntKind.wrap_i64]; omega
     have HSN := Lib.hid hsn2;have d9 := below_alloc wr (.cells #[.int .i64 1, .int .i64 (c : Int), .string ⟨#[]⟩, .slice ua 0 uac] 27);have HBE := Lib.hid (Below.step hbq.out d9);have z9 := alloc_new' wr (.cells #[.int .i64 1, .int .i64 (c : Int), .string ⟨#[]⟩, .slice ua 0 uac] 27);clear d9 hle;go_upto_region 17 with fail
     clear u0' u1' u2' u3' x0 x1 x2 hbq;generalize wr.heap.size = nb at *;generalize wr.alloc (.cells #[.int .i64 1, .int .i64 (c : Int), .string ⟨#[]⟩, .slice ua 0 uac] 27) = wn at *;have z0 := cell_of_block' (i := 0) z9 _ rfl;have z1 := cell_of_block' (i := 1) z9 _ rfl;clear z9;go_wp2_with fail
     go_roundw
     case rel => exact ⟨i + 1, HLQ.out, by go_num, by rw [HSN.out]; first | rfl | go_num, HBE.out⟩
     case measure => have := HLQ.out; simp [intOf]; omega
    ·have hil : i = G.length := by omega
     have k1 : decide ((i : Int) < (G.length : Int)) = false := decide_eq_false (by omega);have k2 : decide (i < G.length) = false := decide_eq_false (by omega);have HE : Hid (cntN ka (G.take i) = hasN ka R) := by show _ = _; rw [hil, List.take_length]; exact HTO.out
     rw [HE.out];clear hi hlq hil HE;replace HRW : Hid (RosP R wr (.slice ra R.length rc)) := HRW.out.on hbq.out;replace HG : Hid (RosP G wr (.slice ga G.length gc)) := HG.out.on hbq.out;have HB9 := Lib.hid (Below.step HB8.out hbq.out);clear hbq;obtain ⟨q, hq⟩ : ∃ q, hasN ka R = q := ⟨_, rfl⟩;rw [hq];clear hq HB8;go_wp2_with fail
     refine (group_any sCount (ka : Int) R (fun k => k < wr.heap.size) wr _ (by have := HK.out; unfold I64; omega) (fun _ h => h) HRW.out).mono ?_;rintro e w9 ⟨hb, G2, v, rfl, -, hgi, hv⟩;have hgi := hgi agg_count (by have := HK.out; omega);rw [Int.toNat_natCast] at hgi;obtain rfl := counts_one agg_count HR.out HLL.out (fun x hx => List.mem_append_left _ hx) (fun x hx => by rcases List.mem_append.1 hx with h | h <;> exact h) HM.out HGI.out hgi;have hros : RosP G w9 v := RosP.of hv (fun k hk => hk.2);obtain ⟨ja, jc, rfl⟩ := SlG.form hros;have HG2 := Lib.hid hros;replace HG : Hid (RosP G w9 (.slice ga G.length gc)) := HG.out.on hb;replace HB9 := Lib.hid (Below.step HB9.out hb);clear hb hgi hv hros HRW;go_wp2_with fail
     refine (same10_any G G (fun k => k < w9.heap.size) w9 _ _ (fun _ h => h) HG.out HG2.out).mono ?_;rintro e wz ⟨rfl, hb⟩;rw [(sameRos_iff _ _).2 rfl];replace HB9 := Lib.hid (Below.step HB9.out hb);clear hb HG HG2;go_wp2_with fail
     go_ret
     exact ⟨rfl, Below.step B.out HB9.out⟩
end Go.Proofs.Ytpnaegohjbaggaa.groupCounts
namespace Go.Proofs.Ytpnaegohjbaggaa.groupCounts
open Go.ChangeShapes Go.WideShapes Go.ChangeAt Go.RowKit
open Go.ChangeMaps (open_string)
set_option maxRecDepth 100000 in
theorem contract (H : Type) (enc : TypeId × Value → H) (W : World) (base : Nat) (args : Array Value) (ds gs : List (DataW H)) (before : List MemPlace)
  (hval : ∀ (j : Nat) t v, Try.f6.params[j]? = some t → args[j]? = some v → Value.okWide Try.prog W .any base t v)
  (hW : DataW.Whole enc Try.prog Try.f6.params.toList Rows.groupCountsSpec.vars false W args.toList ds gs before)
  (hz : (DataW.weightsEach Try.prog (Try.f6.params.toList ++ []) (ds ++ gs)).all (· ≤ reachBytes) = true) (_hL : laidMet Try.prog Rows.groupCountsRow.laid W) :
  Calls Try.prog 6 args W fun e W' => ∃ v, e = .returned v ∧ Rows.groupCountsSpec.post enc Try.prog Try.f6 false true false false W args v W' := by
 have hW' := hW;obtain ⟨p, q, hA0, hV, rfl, hfz, hnd⟩ := hW;have hA : DataW.TrodAll enc Try.prog W 0 (fun _ => true) true Try.f6.params.toList args.toList ds p := hA0;clear hA0;rw [Try.params6] at hA hval hz;obtain ⟨v0, vs0, d0, ds0, p0, q0, hargs, rfl, rfl, h0, r0⟩ := trodAll_cons hA;obtain ⟨v1, vs1, d1, ds1, p1, q1, rfl, rfl, rfl, h1, r1⟩ := trodAll_cons r0;obtain ⟨rfl, rfl, rfl⟩ := trodAll_nil r1;obtain rfl : args = #[v0, v1] := by cases args; simp_all
 obtain ⟨rfl, rfl⟩ := trodVars_none hV;have z0 : (DataW.weightsEach Try.prog [39, 3] [d0, d1]).all (· ≤ reachBytes) = true := by simpa using hz
 obtain ⟨f0, z1⟩ := fits_cons z0;obtain ⟨f1, z2⟩ := fits_cons z1;obtain ⟨x0, g0⟩ := open_rws (hval 0 39 v0 rfl rfl) h0 f0;obtain ⟨x1, rfl, rfl, rfl, g1⟩ := open_int Try.underlying3 (hval 1 3 v1 rfl rfl) h1
 -- USE: walk DATA W CELLS htab FACTS
 refine (walk x0 x1 W v0 g0 (i64_wf g1)).mono fun e W' ⟨he, hb⟩ => ⟨_, he, law_post rfl (by kernel_rfl) (fun t ht => ?_) hW' rfl hb⟩
 rw [Try.params6] at ht;have ht' : t = 39 ∨ t = 3 := by simpa using ht
 rcases ht' with rfl | rfl <;> exact ⟨by kernel_rfl, of_decide_eq_true (by kernel_rfl)⟩
set_option maxRecDepth 100000 in
theorem laid_met (os : Os) : laidMet Try.prog Rows.groupCountsRow.laid ((plainWorld os).forCall (fun _ _ => 0) ⟨#[], #[.slice none 0 0, .int .i64 0], []⟩).memory :=
 laidMet_of_run' 8 (by kernel_rfl) (by kernel_rfl)
set_option maxRecDepth 100000 in
theorem reads (os : Os) {H : Type} (enc : TypeId × Value → H) : ∃ places, DataW.whole enc Try.prog ((plainWorld os).forCall (fun _ _ => 0) ⟨#[], #[.slice none 0 0, .int .i64 0], []⟩).memory Try.f6.params.toList Rows.groupCountsSpec.vars false (#[.slice none 0 0, .int .i64 0] : Array Value).toList 8 = some ([.nil, .lit (.int .i64 0)], [], places) :=
 ⟨[], by kernel_rfl⟩
set_option maxRecDepth 100000 in
theorem lifted (os : Os) (started : os.Started) (H : Type) (enc : TypeId × Value → H) (F : Stop.Interp) :
  ReturnsInHanded {} Try.checked os 6 .any ((OpenSpec.ofChange Rows.groupCountsSpec).preRow enc Try.prog Try.f6 Rows.groupCountsRow.domain false Rows.groupCountsRow.laid) (((OpenSpec.ofChange Rows.groupCountsSpec).at F).post enc Try.prog Try.f6 false true false false) := by
 obtain ⟨places, hx⟩ := reads os enc
 refine returnsInHanded_of_row (C := Try.checked) (s := OpenSpec.ofChange Rows.groupCountsSpec) own started (by kernel_rfl) Try.func6
  (witness_row_at (enc := enc) (C := Try.checked) false (plainWorld os) #[.slice none 0 0, .int .i64 0] rfl (by kernel_rfl) (by kernel_rfl) (by kernel_rfl)
   (OpenSpec.preRow_of_cond 8 hx (by kernel_rfl) (fun k hk => by cases hk) (by kernel_rfl) (laid_met os))) ?_
 intro W base args ds gs before hval hW _ _ hz hL _ _;exact contract H enc W base args ds gs before hval hW hz hL
set_option maxRecDepth 100000 in
theorem said : Rows.GroupCountsSaid :=
 OpenClaim.holds_of_cond 6 Try.f6 rfl rfl rfl rfl rfl rfl rfl ⟨rfl, rfl, rfl, rfl, rfl⟩ rfl rfl rfl rfl rfl (by kernel_rfl) Try.func6 (by kernel_rfl)
  (of_decide_eq_true (by kernel_rfl)) (by unfold Func.isWrapper; first | (rw [if_pos (by decide +kernel)]; kernel_rfl) | (rw [if_neg (by decide +kernel)]; exact ⟨rfl, rfl⟩))
  (fun os started H enc _ F => by rw [OpenClaim.pre_eq_preRow]; exact lifted os started H enc F)
theorem holds : Rows.GroupCountsSaid := said
#print axioms holds
end Go.Proofs.Ytpnaegohjbaggaa.groupCounts
