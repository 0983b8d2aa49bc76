/-
  GrLawE, OwnSlgS, GrLawC, GrPart, GrOnce, GrLawO, LawGOnce, CardGOnce
-/
import Derived.Test.YtpnaegohjbaggaaKD24
import Derived.Test.YtpnaegohjbaggaaKD08
import Derived.Test.YtpnaegohjbaggaaKD20
namespace Go.Proofs.Ytpnaegohjbaggaa
open Go.RowKit
def argR (n : Nat) (x : Ro) : V := x.args.getD n (.mk 0 0 ⟨#[]⟩ [])
theorem argR_at {n : Nat} {x : Ro} (h : n < x.args.length) : argR n x = x.args[n] := by unfold argR; rw [List.getD_eq_getElem?_getD, List.getElem?_eq_getElem h]; rfl
open Classical in
noncomputable def thereB (n : Nat) (x : Ro) (l : List Ro) : Bool := decide (∃ y ∈ l, AlikeP (n : Int) x y ∧ cmpV (argR n y) (argR n x) = 0)
theorem thereB_nil (n : Nat) (x : Ro) : thereB n x [] = false := by unfold thereB; simp
theorem thereB_yes {n : Nat} {x : Ro} {l : List Ro} (h : ∃ y ∈ l, AlikeP (n : Int) x y ∧ cmpV (argR n y) (argR n x) = 0) : thereB n x l = true := by unfold thereB; simp only [decide_eq_true_eq]; exact h
theorem thereB_hit {n : Nat} {x y : Ro} {l : List Ro} (h1 : AlikeP (n : Int) x y) (h2 : cmpV (argR n y) (argR n x) = 0) : thereB n x (l ++ [y]) = true := thereB_yes ⟨y, by simp, h1, h2⟩
theorem thereB_miss {n : Nat} {x y : Ro} {l : List Ro} (h : ¬ (AlikeP (n : Int) x y ∧ cmpV (argR n y) (argR n x) = 0)) : thereB n x (l ++ [y]) = thereB n x l := by
 unfold thereB
 congr 1
 refine propext ⟨fun ⟨z, hz, a, c⟩ => ?_, fun ⟨z, hz, a, c⟩ => ⟨z, List.mem_append_left _ hz, a, c⟩⟩;rcases List.mem_append.1 hz with hz | hz
 ·exact ⟨z, hz, a, c⟩
 ·rw [List.mem_singleton.1 hz] at a c; exact absurd ⟨a, c⟩ h
def EndsI (n : Nat) (s : Int) (L G : List Ro) : Prop := ∀ x ∈ G, n < x.args.length ∧ thereB n x L = true ∧ ∀ y ∈ L, AlikeP (n : Int) x y → cmpV (argR n y) (argR n x) * s ≤ 0
theorem ends_min {n : Nat} {L G : List Ro} (hl : ∀ x ∈ L, rightRo x) (h : GroupIs sMin n L G) : EndsI n (-1) L G := fun x hx => by
 obtain ⟨hn, ⟨y, hy, ha, hyn, hc⟩, hall⟩ := group_min sMin_l hl h x hx;refine ⟨hn, thereB_yes ⟨y, hy, ha, by rw [argR_at hyn, argR_at hn]; exact hc⟩, fun z hz za => ?_⟩;have hzn : n < z.args.length := by rw [← za.2.1]; exact hn
 have := hall z hz za hzn;rw [argR_at hzn, argR_at hn]; omega
theorem ends_max {n : Nat} {L G : List Ro} (hl : ∀ x ∈ L, rightRo x) (h : GroupIs sMax n L G) : EndsI n 1 L G := fun x hx => by
 obtain ⟨hn, ⟨y, hy, ha, hyn, hc⟩, hall⟩ := group_max sMax_l hl h x hx;refine ⟨hn, thereB_yes ⟨y, hy, ha, by rw [argR_at hyn, argR_at hn]; exact hc⟩, fun z hz za => ?_⟩;have hzn : n < z.args.length := by rw [← za.2.1]; exact hn
 have := hall z hz za hzn;rw [argR_at hzn, argR_at hn]; omega
theorem arg_of {S : Nat → Prop} {w : World} {x : Ro} {a : Option Addr} {c : Nat} (h : RepRo S w x (.string x.name) (.slice a x.args.length c) (.int .i64 x.stamp)) {n : Nat} (hn : n < x.args.length) :
  ∃ ub uo va vc, a = some ⟨ub, uo, none⟩ ∧ w.cell? ⟨ub, uo + n * 4, none⟩ = some (.int .i64 (argR n x).kind) ∧ w.cell? ⟨ub, uo + n * 4 + 1, none⟩ = some (.int .i64 (argR n x).num) ∧ w.cell? ⟨ub, uo + n * 4 + 2, none⟩ = some (.string (argR n x).text) ∧ w.cell? ⟨ub, uo + n * 4 + 3, none⟩ = some (.slice va (argR n x).list.length vc) ∧
   RepG S w (argR n x) (.int .i64 (argR n x).kind) (.int .i64 (argR n x).num) (.string (argR n x).text) (.slice va (argR n x).list.length vc) := by
 obtain ⟨ub, uo, uc, va, vc, e, -, u0, u1, u2, u3, hu⟩ := arg_at (x := (x, .slice a x.args.length c)) h hn
 injection e with e1 e2 e3
 subst e1;rw [argR_at hn];exact ⟨ub, uo, va, vc, rfl, u0, u1, u2, u3, hu⟩
end Go.Proofs.Ytpnaegohjbaggaa
namespace Go.Proofs.Ytpnaegohjbaggaa
open Go.RowKit
section
variable {α : Type} {K : Kd α} {S : Nat → Prop}
theorem OwnK.slgS {w : World} {B : Nat} {l : List α} {v : Value} (h : OwnK K S w B l v) (hby : l.length * K.bytes ≤ 140737488355328) : SlG (fun b => S b ∨ (B ≤ b ∧ b < w.heap.size)) w K.n K.bytes (K.R (fun b => S b ∨ (B ≤ b ∧ b < w.heap.size)) w) l v := by
 obtain ⟨xs, ⟨hlen, hown⟩, hr⟩ := h;rcases hown with ⟨rfl, hn⟩ | ⟨g, cap, cur, rfl, hbg, hh, hnc, hcm, hcs, htk⟩
 ·obtain rfl : l = [] := List.length_eq_zero_iff.1 hn
  exact ⟨none, 0, 0, 0, rfl, Nat.le_refl _, by simp, fun h => by omega, fun h => by simp at h, fun i hi => by simp at hi⟩
 ·have hgl := (Array.getElem?_eq_some_iff.1 hh).1
  refine ⟨_, g, 0, cap, rfl, hnc, hby, fun _ => rfl, fun _ => .inr ⟨hbg, hgl⟩, fun i hi => ?_⟩;obtain ⟨c, hc, hR⟩ := hr i hi;refine ⟨c, fun j hj => ?_, K.on (fun k hk => .inl hk) (fun _ _ => rfl) hR⟩;have h1 := hc j hj;rw [← htk, List.getElem?_take] at h1
  have hlt : i * K.n + j < l.length * K.n := by
   have : (i + 1) * K.n ≤ l.length * K.n := Nat.mul_le_mul_right _ hi;rw [Nat.succ_mul] at this; omega
  rw [if_pos hlt] at h1;rw [show 0 + i * K.n + j = i * K.n + j by omega];exact cell_of_block' hh _ (by rw [← Array.getElem?_toList]; exact h1)
end
end Go.Proofs.Ytpnaegohjbaggaa
namespace Go.Proofs.Ytpnaegohjbaggaa
open Go.RowKit
theorem append_ros {w : World} {L M : List Ro} {a b : Option Addr} {c d : Nat} (hL : RosP L w (.slice a L.length c)) (hM : RosP M w (.slice b M.length d)) (hl : L.length + M.length ≤ 1000) (ty : TypeId) :
  ∃ (a6 : Option Addr) (c6 : Nat) (w6 : World) (a7 : Option Addr) (c7 : Nat) (w7 : World), (Builtin.append_ #[40, 40] ty #[.slice none 0 0, .slice a L.length c]).run Try.prog w = .ok (.slice a6 L.length c6) w6 ∧
   (Builtin.append_ #[40, 40] ty #[.slice a6 L.length c6, .slice b M.length d]).run Try.prog w6 = .ok (.slice a7 (L ++ M).length c7) w7 ∧ RosP (L ++ M) w7 (.slice a7 (L ++ M).length c7) ∧ Below w.heap.size w w7 := by
 obtain ⟨v6, w6, hrun6, hown6, hgr6, -⟩ := own_manyH (K := kdRo) (S := fun b => b < w.heap.size) (S1 := fun b => b < w.heap.size) (L := []) (m := L) (lv := .slice none 0 0) (w := w) (base := w.heap.size) (OwnK.nil _ _ _) hL (fun k hk => ⟨hk, by simp [Value.ownBlock]⟩) (Nat.le_refl _) (by simp; omega) ty;have hb6 : Below w.heap.size w w6 := ⟨hgr6.os, hgr6.tape, hgr6.output, hgr6.size, fun k hk => hgr6.block k hk (by simp [Value.ownBlock])⟩;rw [List.nil_append] at hown6;obtain ⟨a6, c6, rfl⟩ := OwnK.form hown6;have h6 : SlG (fun b => b < w.heap.size) w6 kdRo.n kdRo.bytes (kdRo.R (fun b => b < w.heap.size) w6) M (.slice b M.length d) := SlG.on (fun _ h => h) (fun k hk => hb6.block k hk) (fun _ _ _ h => kdRo.on (fun _ h => h) (fun k hk => hb6.block k hk) h) hM;obtain ⟨v7, w7, hrun7, hown7, hgr7, -⟩ := own_manyH (K := kdRo) (S := fun b => b < w.heap.size) (S1 := fun b => b < w.heap.size) (L := L) (m := M) (base := w.heap.size) hown6 h6 (fun k hk => ⟨Nat.lt_of_lt_of_le hk hb6.size, fun e => by have := (OwnK.lies hown6 k e).1; omega⟩) hb6.size (by omega) ty;obtain ⟨a7, c7, rfl⟩ := OwnK.form hown7;refine ⟨a6, c6, w6, a7, c7, w7, hrun6, hrun7, ?_, ?_⟩
 ·exact RosP.of (OwnK.slgS hown7 (by show (L ++ M).length * 48 ≤ _; rw [List.length_append]; omega)) (fun k hk => by rcases hk with hk | hk; exact Nat.lt_of_lt_of_le hk (Nat.le_trans hb6.size hgr7.size); exact hk.2)
 ·exact ⟨hgr7.os.trans hb6.os, hgr7.tape.trans hb6.tape, hgr7.output.trans hb6.output, Nat.le_trans hb6.size hgr7.size, fun k hk => (hgr7.block k (Nat.lt_of_lt_of_le hk hb6.size) (fun e => by have := (OwnK.lies hown6 k e.symm).1; omega)).trans (hb6.block k hk)⟩
theorem merge_merge {l m q : List Ro} (h : MergeIs l m) (k : MergeIs m q) : MergeIs l q where
 rise := k.rise
 there := fun r hr => h.there r (k.there r hr)
 best := fun x hx => by
  obtain ⟨r, hr, e, s⟩ := h.best x hx;obtain ⟨p, hp, e2, s2⟩ := k.best r hr;exact ⟨p, hp, by have := (ord_cmpRo p r x).eqv e2; omega, by omega⟩
def cntN (n : Nat) (l : List Ro) : Nat := (l.map fun g => (argR n g).num.toNat).sum
def hasN (n : Nat) (l : List Ro) : Nat := (l.filter fun r => decide (n < r.args.length)).length
theorem cntN_snoc (n : Nat) (l : List Ro) {i : Nat} (h : i < l.length) : cntN n (l.take (i + 1)) = cntN n (l.take i) + (argR n l[i]).num.toNat := by
 unfold cntN; rw [List.take_succ_eq_append_getElem h, List.map_append, List.sum_append]; simp
theorem cntN_le (n : Nat) (l : List Ro) (i : Nat) : cntN n (l.take i) ≤ cntN n l := by
 conv => rhs; rw [← List.take_append_drop i l]
 unfold cntN; rw [List.map_append, List.sum_append]; omega
theorem hasN_yes (n : Nat) (l : List Ro) {i : Nat} (h : i < l.length) (hn : n < l[i].args.length) : hasN n (l.take (i + 1)) = hasN n (l.take i) + 1 := by
 unfold hasN; rw [List.take_succ_eq_append_getElem h, List.filter_append, List.length_append]; simp [hn]
theorem hasN_no (n : Nat) (l : List Ro) {i : Nat} (h : i < l.length) (hn : ¬ n < l[i].args.length) : hasN n (l.take (i + 1)) = hasN n (l.take i) := by
 unfold hasN; rw [List.take_succ_eq_append_getElem h, List.filter_append, List.length_append]; simp [hn]
theorem hasN_le (n : Nat) (l : List Ro) (i : Nat) : hasN n (l.take i) ≤ i := by
 unfold hasN;exact Nat.le_trans (List.length_filter_le _ _) (by rw [List.length_take]; omega)
theorem merge_len {l R : List Ro} (h : MergeIs l R) : R.length ≤ l.length := few_of R l (h.rise.imp fun {a b} hab e => by rw [e] at hab; exact cmpRo_irr b hab) h.there
theorem group_cnt {n : Nat} {l G : List Ro} (h : GroupIs sCount n l G) : (∀ g ∈ G, n < g.args.length ∧ ∃ c : Nat, 1 ≤ c ∧ argR n g = numN (c : Int)) ∧ ∃ R, MergeIs l R ∧ cntN n G = hasN n R := by
 obtain ⟨R, C, hR, hC, hsum, hp⟩ := group_count sCount_l h
 have hat : ∀ g ∈ G, n < g.args.length ∧ ∃ c : Nat, 1 ≤ c ∧ argR n g = numN (c : Int) := fun g hg => by
  have hm : g.args[n]? ∈ G.map fun g => g.args[n]? := List.mem_map.2 ⟨g, hg, rfl⟩
  obtain ⟨c, hc, e⟩ := List.mem_map.1 (hp.mem_iff.1 hm);obtain ⟨hn, e2⟩ := List.getElem?_eq_some_iff.1 e.symm;exact ⟨hn, c, hC c hc, by rw [argR_at hn]; exact e2⟩
 refine ⟨hat, R, hR, ?_⟩;rw [hasN, ← hsum]
 have e1 : G.map (fun g => (argR n g).num.toNat) = (G.map fun g => g.args[n]?).map (fun o => (o.getD (.mk 0 0 ⟨#[]⟩ [])).num.toNat) := by
  rw [List.map_map];exact List.map_congr_left fun g hg => by simp [argR, List.getD_eq_getElem?_getD]
 have e2 : C = (C.map fun (c : Nat) => some (numN (c : Int))).map (fun o => (o.getD (.mk 0 0 ⟨#[]⟩ [])).num.toNat) := by
  rw [List.map_map]
  conv => lhs; rw [← List.map_id C]
  exact List.map_congr_left fun c hc => (by show c = (Int.toNat (c : Int)); simp)
 rw [cntN, e1]
 conv => rhs; rw [e2]
 exact (hp.map _).sum_nat
theorem counts_all {n : Nat} {l m R G : List Ro} (hl : ∀ x ∈ l, rightRo x) (hm : ∀ x ∈ m, rightRo x) (h1 : ∀ x ∈ l, x ∈ m) (h2 : ∀ x ∈ m, x ∈ l) (hR : MergeIs l R) (h : GroupIs sCount n m G) : cntN n G = hasN n R := by
 obtain ⟨-, Q, hQ, e⟩ := group_cnt h;rw [e, merge_one hl hm hR hQ h1 h2]
theorem counts_one {s : ByteArray} {n : Nat} {l m R G H : List Ro} (hs : AggName s) (hl : ∀ x ∈ l, rightRo x) (hm : ∀ x ∈ m, rightRo x) (h1 : ∀ x ∈ l, x ∈ m) (h2 : ∀ x ∈ m, x ∈ l) (hR : MergeIs l R) (h : GroupIs s n m G) (k : GroupIs s n R H) : G = H :=
 group_one hs hm (fun x hx => hl x (hR.there x hx)) h k fun _A _B a b => merge_one hm hl a (merge_merge hR b) h2 h1
end Go.Proofs.Ytpnaegohjbaggaa
namespace Go.Proofs.Ytpnaegohjbaggaa
open Go.RowKit
open Classical in
noncomputable def ofName (N : ByteArray) (l : List Ro) : List Ro := l.filter fun r => decide (r.name = N)
theorem ofName_mem {N : ByteArray} {l : List Ro} {r : Ro} : r ∈ ofName N l ↔ r ∈ l ∧ r.name = N := by simp [ofName]
theorem ofName_right {N : ByteArray} {l : List Ro} (h : ∀ x ∈ l, rightRo x) : ∀ x ∈ ofName N l, rightRo x := fun x hx => h x (ofName_mem.1 hx).1
theorem cmpRo_name {a b : Ro} (h : cmpRo a b = 0) : a.name = b.name := by
 unfold cmpRo at h
 by_cases h1 : cmpS a.name b.name = 0
 ·exact cmpS_zero h1
 ·rw [if_pos h1] at h; exact absurd h h1
theorem merge_name {N : ByteArray} {l R : List Ro} (h : MergeIs l R) : MergeIs (ofName N l) (ofName N R) where
 rise := h.rise.sublist List.filter_sublist
 there := fun r hr => ofName_mem.2 ⟨h.there r (ofName_mem.1 hr).1, (ofName_mem.1 hr).2⟩
 best := fun x hx => by
  obtain ⟨r, hr, hc, hs⟩ := h.best x (ofName_mem.1 hx).1;exact ⟨r, ofName_mem.2 ⟨hr, (cmpRo_name hc).trans (ofName_mem.1 hx).2⟩, hc, hs⟩
theorem made_name {s : ByteArray} {n : Nat} {R : List Ro} {g : Ro} {x : Cel} {L : List Cel} (h : MadeOf s n R g x L) : MadeOf s n (ofName g.name R) g x L where
 row := h.row
 of := fun y hy => by
  obtain ⟨h1, h2, h3⟩ := h.of y hy;exact ⟨ofName_mem.2 ⟨h1, h3.1.symm⟩, h2, h3⟩
 all := fun r hr ha => h.all r (ofName_mem.1 hr).1 ha
 one := h.one
theorem group_name {s : ByteArray} {n : Nat} {N : ByteArray} {l G H : List Ro} (hs : AggName s) (hl : ∀ x ∈ l, rightRo x) (h : GroupIs s n l G) (k : GroupIs s n (ofName N l) H) : ofName N G = H := by
 obtain ⟨R, hR, hall⟩ := group_made h;obtain ⟨Q, hQ, hall2⟩ := group_made k;have hm := ofName_right (N := N) hl;obtain rfl : ofName N R = Q := merge_one hm hm (merge_name hR) hQ (fun _ h => h) (fun _ h => h);have hr : ∀ r ∈ ofName N R, rightRo r := fun r hr => hm r (hQ.there r hr)
 refine rise_eq (lt := fun a b => cmpRo a b < 0) cmpRo_irr (fun _ _ h => cmpRo_asym h) _ _ ((group_rise h).sublist List.filter_sublist) (group_rise k) (fun g hg => ?_) (fun g hg => ?_)
 ·obtain ⟨hgG, hgn⟩ := ofName_mem.1 hg
  obtain ⟨hn, x, L, hx⟩ := hall g hgG;have hx2 := made_name hx;rw [hgn] at hx2;obtain ⟨h1, h2, h3⟩ := hx2.of x (List.mem_cons_self ..);obtain ⟨g', hg', ha'⟩ := group_there hm k x.1 (hQ.there _ h1) h2;obtain ⟨hn', x', L', hx'⟩ := hall2 g' hg';rw [made_one hs hr hx2 hx' hn (alike_trans h3 (alike_symm ha'))];exact hg'
 ·obtain ⟨hn, x, L, hx⟩ := hall2 g hg
  obtain ⟨h1, h2, h3⟩ := hx.of x (List.mem_cons_self ..);have hgn : g.name = N := h3.1.trans (ofName_mem.1 h1).2;obtain ⟨g', hg', ha'⟩ := group_there hl h x.1 (hR.there _ (ofName_mem.1 h1).1) h2;obtain ⟨hn', x', L', hx'⟩ := hall g' hg';have hx2 := made_name hx';have hag := alike_trans h3 (alike_symm ha');rw [← hag.1, hgn] at hx2;rw [made_one hs hr hx hx2 hn hag];exact ofName_mem.2 ⟨hg', by rw [← hag.1, hgn]⟩
end Go.Proofs.Ytpnaegohjbaggaa
namespace Go.Proofs.Ytpnaegohjbaggaa
open Go.RowKit
theorem cmpRo_alike {k : Int} {a b : Ro} (h : cmpRo a b = 0) : AlikeP k a b := by
 have hn := cmpRo_name h;unfold cmpRo at h;rw [if_neg (by rw [hn]; simpa using cmpS_self0 b.name)] at h;obtain ⟨h1, h2⟩ := (cmpL_eq0 _ _).1 h;exact ⟨hn, h1, fun i p q _ => h2 i p q⟩
theorem once_set {s : ByteArray} {n : Nat} {m R : List Ro} (hu : ∀ a ∈ m, ∀ b ∈ m, AlikeP (n : Int) a b → a = b) (hR : MergeIs m R) {g : Ro} {x : Cel} {L : List Cel} (h : MadeOf s n R g x L) : L = [] := by
 cases L with
 | nil => rfl
 | cons y L =>
  exfalso
  obtain ⟨h1, -, h3⟩ := h.of x (List.mem_cons_self ..);obtain ⟨k1, -, k3⟩ := h.of y (List.mem_cons_of_mem _ (List.mem_cons_self ..));have e := hu _ (hR.there _ h1) _ (hR.there _ k1) (alike_trans (alike_symm h3) k3);have := h.one;rw [List.map_cons, List.nodup_cons] at this;exact this.1 (by rw [e]; simp)
theorem group_once {s : ByteArray} {n : Nat} {m G : List Ro} (hs : AggName s) (hu : ∀ a ∈ m, ∀ b ∈ m, AlikeP (n : Int) a b → a = b) (hn : ∀ a ∈ m, n < a.args.length) (hr : ∀ a ∈ m, rightRo a) (h : GroupIs s n m G) :
  (s.toList = [99, 111, 117, 110, 116] → ∀ g ∈ G, g.args[n]? = some (numN 1)) ∧ (s.toList ≠ [99, 111, 117, 110, 116] → MergeIs m G) := by
 obtain ⟨R, hR, hall⟩ := group_made h;refine ⟨fun hc g hg => ?_, fun hc => ?_⟩
 ·obtain ⟨hgn, x, L, hx⟩ := hall g hg
  obtain rfl := once_set hu hR hx;rw [List.getElem?_eq_getElem hgn, made_at hx hgn, aggV_count hc]; rfl
 ·have hone : ∀ g ∈ G, g ∈ R := fun g hg => by
   obtain ⟨hgn, x, L, hx⟩ := hall g hg;obtain rfl := once_set hu hR hx;obtain ⟨h1, h2, -⟩ := hx.of x (List.mem_cons_self ..)
   have hv : aggV s n x [] = argN n x := by
    rcases aggV_or hs n x [] with ⟨-, e⟩ | ⟨-, e⟩ | ⟨e, -⟩
    ·rw [e]; rfl
    ·rw [e]; rfl
    ·exact absurd e hc
   have e : g = x.1 := by
    rw [hx.row, newCel, hv, argN_at h2];simp [longZ]
   rw [e]; exact h1
  have hback : ∀ r ∈ R, r ∈ G := fun r hr' => by
   have hrm := hR.there r hr';obtain ⟨g, hg, ha⟩ := group_there hr h r hrm (hn r hrm);rw [← hu g (hR.there g (hone g hg)) r hrm ha]; exact hg
  rw [rise_eq (lt := fun a b => cmpRo a b < 0) cmpRo_irr (fun _ _ h => cmpRo_asym h) G R (group_rise h) hR.rise hone hback];exact hR
theorem once_len {s : ByteArray} {n : Nat} {m G : List Ro} (hu : ∀ a ∈ m, ∀ b ∈ m, AlikeP (n : Int) a b → a = b) (hd : m.Nodup) (hn : ∀ a ∈ m, n < a.args.length) (hs : s.toList = [99, 111, 117, 110, 116]) (h : GroupIs s n m G) : G.length = m.length := by
 obtain ⟨R, hR, hall⟩ := group_made h
 have hin : ∀ x ∈ m, x ∈ R := fun x hx => by
  obtain ⟨r, hr', hc, -⟩ := hR.best x hx;rw [← hu r (hR.there r hr') x hx (cmpRo_alike hc)]; exact hr'
 have h1 := few_of m R hd hin;have h2 := few_of R m (hR.rise.imp fun {a b} hab e => by rw [e] at hab; exact cmpRo_irr b hab) hR.there;obtain ⟨R', C, hR', -, hsum, hperm⟩ := group_count hs h
 have hin' : ∀ x ∈ m, x ∈ R' := fun x hx => by
  obtain ⟨r, hr', hc, -⟩ := hR'.best x hx;rw [← hu r (hR'.there r hr') x hx (cmpRo_alike hc)]; exact hr'
 have h3 := few_of m R' hd hin';have h4 := few_of R' m (hR'.rise.imp fun {a b} hab e => by rw [e] at hab; exact cmpRo_irr b hab) hR'.there;have hf : (R'.filter fun r => decide (n < r.args.length)) = R' := List.filter_eq_self.2 fun r hr' => decide_eq_true (hn r (hR'.there r hr'))
 have hl : G.length = C.length := by simpa using hperm.length_eq
 have hC : ∀ c ∈ C, c = 1 := fun c hc => by
  have : some (numN (c : Int)) ∈ C.map fun (c : Nat) => some (numN (c : Int)) := List.mem_map.2 ⟨c, hc, rfl⟩
  obtain ⟨g, hg, e⟩ := List.mem_map.1 (hperm.mem_iff.2 this);obtain ⟨hgn, x, L, hx⟩ := hall g hg;obtain rfl := once_set hu hR hx;rw [List.getElem?_eq_getElem hgn, made_at hx hgn, aggV_count hs] at e
  injection e with e
  injection e with _ e2 _ _
  simp only [List.length_nil] at e2
  omega
 have hsumC : C.sum = C.length := by
  clear hperm hl hsum
  induction C with
  | nil => rfl
  | cons c C ih => rw [List.sum_cons, List.length_cons, ih fun c h => hC c (List.mem_cons_of_mem _ h), hC c (List.mem_cons_self ..)]; omega
 rw [hf] at hsum;omega
end Go.Proofs.Ytpnaegohjbaggaa
namespace Go.Proofs.Ytpnaegohjbaggaa
open Go.RowKit
theorem put_row {S : Nat → Prop} {w : World} {B : Nat} {M : List Ro} {mv : Value} {x : Ro} {a : Option Addr} {c : Nat} (h : MineS kdRo S w B M mv) (hB : B ≤ w.heap.size) (hSB : ∀ k, S k → k < B) (hl : M.length ≤ 1000)
  (hx : RepRo S w x (.string x.name) (.slice a x.args.length c) (.int .i64 x.stamp)) (ty : TypeId) :
  ∃ (a6 : Option Addr) (cap : Nat) (w6 : World), (Builtin.append_ #[40, 40] ty #[mv, .slice (some ⟨w.heap.size, 0, none⟩) 1 1]).run Try.prog (w.alloc (.cells #[.string x.name, .slice a x.args.length c, .int .i64 x.stamp] 47)) = .ok (.slice a6 (M.length + 1) cap) w6 ∧
   MineS kdRo S w6 B (M ++ [x]) (.slice a6 (M.length + 1) cap) ∧ Below B w w6 := by
 have d0 := below_alloc w (.cells #[.string x.name, .slice a x.args.length c, .int .i64 x.stamp] 47);have h0 := h.on d0;have hli := h0.lies
 obtain ⟨a6, cap, w6, hrun, hm, hg⟩ := MineS.append (y := x) (c := at3x (.string x.name) (.slice a x.args.length c) (.int .i64 x.stamp)) h0 (Nat.le_trans hB d0.size) hl (alloc_new' w _)
  (fun j hj => (show _ from match j, (show j < 3 from hj) with | 0, _ => rfl | 1, _ => rfl | 2, _ => rfl))
  (show RepRo _ _ x _ _ _ from RepRo.on (fun k hk => ⟨.inl hk, Nat.lt_of_lt_of_le (Nat.lt_of_lt_of_le (hSB k hk) hB) d0.size, fun e => by have := (hli k e).1; have := hSB k hk; omega⟩) (fun k hk => d0.block k (Nat.lt_of_lt_of_le (hSB k hk) hB)) hx) ty
 exact ⟨a6, cap, w6, hrun, hm, ⟨hg.os.trans d0.os, hg.tape.trans d0.tape, hg.output.trans d0.output, Nat.le_trans d0.size hg.size, fun k hk => (hg.block k (by have := d0.size; omega) (fun e => by have := (hli k e.symm).1; omega)).trans (d0.block k (by omega))⟩⟩
theorem MineS.ros {S : Nat → Prop} {w : World} {B : Nat} {l : List Ro} {v : Value} (h : MineS kdRo S w B l v) (hl : l.length ≤ 100000) : RosP l w v := RosP.of (MineS.slg h hl) (fun _ hk => hk.2)
noncomputable def inB (n : Nat) (m : List Ro) (x : Ro) : Bool := decide (x.args.length ≤ n) || m.any fun y => alikeB (n : Int) y x
noncomputable def onceL (n : Nat) (l : List Ro) : List Ro := l.foldl (fun m x => if inB n m x then m else m ++ [x]) []
theorem onceL_nil (n : Nat) : onceL n [] = [] := rfl
theorem onceL_snoc (n : Nat) (l : List Ro) {i : Nat} (h : i < l.length) : onceL n (l.take (i + 1)) = if inB n (onceL n (l.take i)) l[i] then onceL n (l.take i) else onceL n (l.take i) ++ [l[i]] := by
 unfold onceL; rw [List.take_succ_eq_append_getElem h, List.foldl_append, List.foldl_cons, List.foldl_nil]
structure OnceI (n : Nat) (L m : List Ro) : Prop where
 one : ∀ a ∈ m, ∀ b ∈ m, AlikeP (n : Int) a b → a = b
 dup : m.Nodup
 far : ∀ a ∈ m, n < a.args.length
 of : ∀ a ∈ m, a ∈ L
theorem OnceI.step {n : Nat} {L m : List Ro} {x : Ro} (h : OnceI n L m) (hx : x ∈ L) : OnceI n L (if inB n m x then m else m ++ [x]) := by
 by_cases hc : inB n m x = true
 ·rw [if_pos hc]; exact h
 ·rw [if_neg hc]
  have hc' : ¬ (x.args.length ≤ n) ∧ ∀ y ∈ m, ¬ AlikeP (n : Int) y x := by
   unfold inB at hc;rw [Bool.or_eq_true, List.any_eq_true] at hc;exact ⟨fun h => hc (.inl (decide_eq_true h)), fun y hy ha => hc (.inr ⟨y, hy, alikeB_yes ha⟩)⟩
  obtain ⟨c1, c2⟩ := hc';refine ⟨fun a ha b hb e => ?_, ?_, fun a ha => ?_, fun a ha => ?_⟩
  ·rcases List.mem_append.1 ha with ha | ha <;> rcases List.mem_append.1 hb with hb | hb
   ·exact h.one a ha b hb e
   ·rw [List.mem_singleton.1 hb] at e; exact absurd e (c2 a ha)
   ·rw [List.mem_singleton.1 ha] at e; exact absurd (alike_symm e) (c2 b hb)
   ·rw [List.mem_singleton.1 ha, List.mem_singleton.1 hb]
  ·refine List.nodup_append.2 ⟨h.dup, List.pairwise_singleton _ _, fun a ha b hb e => ?_⟩
   rw [List.mem_singleton.1 hb] at e;exact c2 a ha (by rw [e]; exact alike_refl _ _)
  ·rcases List.mem_append.1 ha with ha | ha
   ·exact h.far a ha
   ·rw [List.mem_singleton.1 ha]; omega
  ·rcases List.mem_append.1 ha with ha | ha
   ·exact h.of a ha
   ·rw [List.mem_singleton.1 ha]; exact hx
theorem onceL_is (n : Nat) (L : List Ro) : OnceI n L (onceL n L) := by
 have h : ∀ (l m : List Ro), (∀ x ∈ l, x ∈ L) → OnceI n L m → OnceI n L (l.foldl (fun m x => if inB n m x then m else m ++ [x]) m) := by
  intro l
  induction l with
  | nil => intro m _ h; exact h
  | cons x l ih =>
   intro m hl h;rw [List.foldl_cons];exact ih _ (fun y hy => hl y (List.mem_cons_of_mem _ hy)) (h.step (hl x (List.mem_cons_self ..)))
 exact h L [] (fun _ h => h) ⟨fun a ha => by simp at ha, List.nodup_nil, fun a ha => by simp at ha, fun a ha => by simp at ha⟩
theorem onceL_len (n : Nat) (L : List Ro) : (onceL n L).length ≤ L.length := few_of _ L (onceL_is n L).dup (onceL_is n L).of
theorem once_one {n : Nat} {L G : List Ro} (hr : ∀ x ∈ L, rightRo x) (h : GroupIs sCount n (onceL n L) G) : (∀ g ∈ G, n < g.args.length ∧ argR n g = numN 1) ∧ G.length = (onceL n L).length := by
 have hi := onceL_is n L;obtain ⟨h1, -⟩ := group_once agg_count hi.one hi.far (fun a ha => hr a (hi.of a ha)) h;refine ⟨fun g hg => ?_, once_len hi.one hi.dup hi.far sCount_l h⟩;have h2 := h1 sCount_l g hg;obtain ⟨hn, e⟩ := List.getElem?_eq_some_iff.1 h2;exact ⟨hn, by rw [argR_at hn]; exact e⟩
theorem sMin_c : sMin.toList ≠ [99, 111, 117, 110, 116] := by rw [sMin_l]; decide
theorem sMax_c : sMax.toList ≠ [99, 111, 117, 110, 116] := by rw [sMax_l]; decide
theorem once_same {s : ByteArray} {n : Nat} {L G R : List Ro} (hs : AggName s) (hc : s.toList ≠ [99, 111, 117, 110, 116]) (hr : ∀ x ∈ L, rightRo x) (h : GroupIs s n (onceL n L) G) (hR : MergeIs (onceL n L) R) : G = R := by
 have hi := onceL_is n L;have hm : ∀ a ∈ onceL n L, rightRo a := fun a ha => hr a (hi.of a ha)
 exact merge_one hm hm ((group_once hs hi.one hi.far hm h).2 hc) hR (fun _ h => h) (fun _ h => h)
theorem group_nil {s : ByteArray} {n : Nat} {G : List Ro} (h : GroupIs s n [] G) : G = [] := by
 obtain ⟨R, hR, hall⟩ := group_made h
 cases G with
 | nil => rfl
 | cons g G =>
  obtain ⟨-, x, L, hm⟩ := hall g (List.mem_cons_self ..);have := hR.there _ (hm.of x (List.mem_cons_self ..)).1;simp at this
theorem group_turn {s : ByteArray} {n k : Nat} {L G H : List Ro} (hs : AggName s) (hr : ∀ x ∈ L, rightRo x) (h : GroupIs s n L G) (g : GroupIs s n (L.drop k ++ L.take k) H) : G = H := by
 have h1 : ∀ x ∈ L, x ∈ L.drop k ++ L.take k := fun x hx => by
  rw [← List.take_append_drop k L, List.mem_append] at hx;exact List.mem_append.2 hx.symm
 have h2 : ∀ x ∈ L.drop k ++ L.take k, x ∈ L := fun x hx => by
  rcases List.mem_append.1 hx with hx | hx
  ·exact List.mem_of_mem_drop hx
  ·exact List.mem_of_mem_take hx
 exact group_one hs hr (fun x hx => hr x (h2 x hx)) h g fun _A _B a b => merge_one hr (fun x hx => hr x (h2 x hx)) a b h1 h2
theorem ofName_yes (N : ByteArray) (l : List Ro) {i : Nat} (h : i < l.length) (e : l[i].name = N) : ofName N (l.take (i + 1)) = ofName N (l.take i) ++ [l[i]] := by
 unfold ofName; rw [List.take_succ_eq_append_getElem h, List.filter_append]; simp [e]
theorem ofName_no (N : ByteArray) (l : List Ro) {i : Nat} (h : i < l.length) (e : l[i].name ≠ N) : ofName N (l.take (i + 1)) = ofName N (l.take i) := by
 unfold ofName; rw [List.take_succ_eq_append_getElem h, List.filter_append]; simp [e]
theorem ofName_len (N : ByteArray) (l : List Ro) : (ofName N l).length ≤ l.length := List.length_filter_le _ _
end Go.Proofs.Ytpnaegohjbaggaa
namespace Go.Proofs.Ytpnaegohjbaggaa.groupOnce
open Go.RowKit
set_option maxRecDepth 100000 in
set_option maxHeartbeats 8000000 in
theorem walk (facts : List Rw) (at_ : Int) (W : World) (va : Value) (gf : RepRws (fun k => k < W.heap.size) W facts va) (hat : I64 at_) :
  Calls Try.prog 7 #[va, .int .i64 at_] W fun e W' => e = .returned (.bool true) ∧ Below W.heap.size W W' := by
 obtain ⟨qa, qc, rfl⟩ := SlG.form gf;have GF := Lib.hid gf;have HAT := Lib.hid hat;clear gf hat;go_enter Try.func7, Try.ntmps7
 go_wp2_with fail
 refine (awake11_any W).mono ?_;rintro e w1 ⟨rfl, hb⟩;have B := Lib.hid hb;clear hb;go_wp2_with fail
 refine (rows_any facts (fun k => k < W.heap.size) w1 _ (fun k hk => Nat.lt_of_lt_of_le hk B.out.size) (SlG.on (fun _ h => h) (fun k hk => B.out.block k hk) (fun _ _ _ h => h) GF.out)).mono ?_;rintro e w2 ⟨hb, lv, rfl, hm⟩;have HR := Lib.hid (right_rowsZ facts);have HST := Lib.hid (stamp_rowsZ facts);have HL40 := Lib.hid (len_rowsZ facts);have hros : RosP (rowsZ facts) w2 lv := RosP.of (MineS.slg hm (by have := HL40.out; omega)) (fun k hk => hk.2);replace B := Lib.hid (Below.step B.out hb);clear hm hb GF;generalize rowsZ facts = L at *;obtain ⟨la, lc, rfl⟩ := SlG.form hros;have HL := Lib.hid hros;have hL63 : L.length ≤ 40 := HL40.out;clear hros;obtain ⟨n, hn, hn2⟩ := pick_nat at_ 2 (by omega);have hwr := wrap_one n hn2;obtain ⟨ka, hK⟩ : ∃ ka, n + 1 = ka := ⟨_, rfl⟩;rw [hK] at hwr;have HK : Hid (1 ≤ ka ∧ ka ≤ 2) := ⟨by omega, by omega⟩;have HN : Hid (pickZ at_ ((2 : Nat) : Int) = (n : Int)) := hn;clear hn hn2 hK;go_wp2_with fail
 refine (pick11_any at_ 2 w2 HAT.out (by omega) (by omega)).mono ?_;rintro e w3 ⟨rfl, rfl⟩;rw [show pickZ at_ 2 = (n : Int) from HN.out];clear HN;go_wp2_with fail
 clear hwr;go_loopw [8, 9] (fun mv iv wr => ∃ q : Nat, q ≤ L.length ∧ iv = .int .i64 (q : Int) ∧ Hid (MineS kdRo (fun k => k < w2.heap.size) wr w2.heap.size (onceL ka (L.take q)) mv) ∧ Hid (Below w2.heap.size w2 wr)) (fun _ iv _ => L.length - (intOf iv).toNat)
 case atStart => exact ⟨0, Nat.zero_le _, rfl, (by show MineS _ _ _ _ _ _; rw [List.take_zero, onceL_nil]; exact MineS.nil _ _), Below.refl _ _⟩
 case round =>
  obtain ⟨q, hq, rfl, hm, hbq⟩ := hrel;have hml : (onceL ka (L.take q)).length ≤ 40 := Nat.le_trans (onceL_len ka _) (by rw [List.length_take]; omega)
  by_cases hlq : q < L.length
  ·have HLQ := Lib.hid hlq
   have HSN := Lib.hid (onceL_snoc ka L hlq);obtain ⟨zb, zo, zf, zc, hez, hSz, z0, z1, z2, hz, -⟩ := RosP.at HL.out hbq.out q HLQ.out;subst hez;obtain ⟨b, hbd⟩ : ∃ b, decide ((L[q]'HLQ.out).args.length ≤ ka) = b := ⟨_, rfl⟩;have HBD := Lib.hid hbd;have k1 : decide ((q : Int) < (L.length : Int)) = true := decide_eq_true (by omega);have k2 : decide (q < L.length) = true := decide_eq_true (by omega);have k3 : (0 : Int) ≤ (q : Int) := Int.natCast_nonneg _;have k4 : (q : Int) < (L.length : Int) := by omega
   clear hz hSz hq;generalize hyy : L[q]'HLQ.out = y at *;have HYY := Lib.hid hyy;have k5 : decide ((y.args.length : Int) ≤ (ka : Int)) = b := by rw [← hbd]; simp
   obtain ⟨M, hM⟩ : ∃ M, onceL ka (L.take q) = M := ⟨_, rfl⟩;rw [hM] at hm hml HSN;clear hyy hlq hM;obtain ⟨ma, mc, rfl⟩ := MineS.form hm.out;have HMR : Hid (RosP M wr (.slice ma M.length mc)) := MineS.ros hm.out (by omega);have HMI := hm;clear hm;go_wp2_with fail
   clear k1 k2 k3 k4 k5 hbd z0 z1 z2;have HBO2 := hbq;have HLW : Hid (RosP L wr (.slice (some ⟨zb, zo, none⟩) L.length lc)) := HL.out.on hbq.out;have HMW := HMR;clear hbq HMR;generalize wr = wx at *;go_loopw [10, 11] (fun bv jv wr => ∃ r : Nat, r ≤ M.length ∧ jv = .int .i64 (r : Int) ∧ bv = .bool (b || (M.take r).any fun x => alikeB (ka : Int) x y) ∧ Hid (Below wx.heap.size wx wr)) (fun _ jv _ => M.length - (intOf jv).toNat)
   case atStart => exact ⟨0, Nat.zero_le _, rfl, by rw [List.take_zero, List.any_nil, Bool.or_false], Below.refl _ _⟩
   case round =>
    obtain ⟨r, hr, rfl, rfl, hbr⟩ := hrel
    by_cases hlr : r < M.length
    ·have HLR := Lib.hid hlr
     obtain ⟨c, hc⟩ : ∃ c, (b || (M.take r).any fun x => alikeB (ka : Int) x y) = c := ⟨_, rfl⟩;have HC := Lib.hid hc;rw [hc];clear hc;obtain ⟨xb, xo, xf, xc, hex, hSx, x0, x1, x2, hx, -⟩ := RosP.at HMW.out hbr.out r HLR.out;subst hex;obtain ⟨yb, yo, yf, yc, hey, hSy, y0, y1, y2, hy, -⟩ := RosP.at HLW.out hbr.out q HLQ.out;have he2 := Option.some.inj hey
     injection he2 with e1 e2 e3
     subst e1 e2;clear hey e3;have HX := Lib.hid hx;have HY := Lib.hid hy;rw [HYY.out] at HY y0 y1 y2;have HSZ : Hid (wx.heap.size ≤ wr.heap.size) := hbr.out.size;have k1 : decide ((r : Int) < (M.length : Int)) = true := decide_eq_true (by omega);have k2 : decide (r < M.length) = true := decide_eq_true (by omega);have k3 : (0 : Int) ≤ (r : Int) := Int.natCast_nonneg _;have k4 : (r : Int) < (M.length : Int) := by omega
     have k5 : (0 : Int) ≤ (q : Int) := Int.natCast_nonneg _;have k6 : (q : Int) < (L.length : Int) := by have := HLQ.out; omega
     clear hx hy hSx hSy hr;generalize hxx : M[r]'HLR.out = x at *;have HXX := Lib.hid hxx;clear hxx hlr
     cases c
     ·obtain ⟨v, hv⟩ : ∃ v, alikeB (ka : Int) x y = v := ⟨_, rfl⟩
      have HV := Lib.hid hv;have HV2 : Hid (alikeB (ka : Int) (M[r]'HLR.out) y = v) := by show _ = _; rw [HXX.out]; exact hv
      clear hv;go_upto_region 12 with fail
      cases v
      ·refine wp_region_factsL (by rfl) 105 (by rfl) (by kernel_rfl) (FA [.e (.bool false), .e (.bool false), .e (.slice (some ⟨xb, xo, none⟩) M.length mc), .e (.int .i64 (r : Int)), .e (.pointer (some ⟨xb, xo + r * 3, none⟩)), .e (.agg #[.string x.name, .slice xf x.args.length xc, .int .i64 x.stamp]), .e (.slice (some ⟨zb, zo, none⟩) L.length lc), .e (.int .i64 (q : Int)), .e (.pointer (some ⟨zb, zo + q * 3, none⟩)), .e (.agg #[.string y.name, .slice yf y.args.length yc, .int .i64 y.stamp]), .e (.int .i64 (ka : Int)), .e (.bool false), .e (.bool false)]) (fun w' => Below wr.heap.size wr w') (Below.drew (Below.refl _ _)) ⟨?d0, ?d1, ?d2, ?d3, ?d4, ?d5, ?d6, ?d7, ?d8, ?d9, ?d10, ?d11, ?d12, trivial⟩ (by rfl) ?dlast (by decide)
       case d0 =>
        intro a w' hoff hg hdep K hK;have h10 := off_at hoff 10 (v := .bool false) (by kernel_rfl) rfl;rw [if_pos (by rfl)];go_simp;exact hK.out _ _ hg rfl (fun _ _ h => h)
       case d1 =>
        intro a w' hoff hg hdep K hK;obtain ⟨_, e0, rfl⟩ := hdep 0 _ 40 (by kernel_rfl) rfl rfl;rw [if_pos (by rfl)];go_simp;exact hK.out _ _ hg rfl (fun _ _ h => h)
       case d2 =>
        intro a w' hoff hg hdep K hK;have h8 := off_at hoff 8 (v := .slice (some ⟨xb, xo, none⟩) M.length mc) (by kernel_rfl) rfl;obtain ⟨_, e1, rfl⟩ := hdep 1 _ 41 (by kernel_rfl) rfl rfl;rw [if_pos (by simp [Region.wanted, yielded, e1])];go_simp;exact hK.out _ _ hg rfl (fun _ _ h => h)
       case d3 =>
        intro a w' hoff hg hdep K hK;have h11 := off_at hoff 11 (v := .int .i64 (r : Int)) (by kernel_rfl) rfl;obtain ⟨_, e1, rfl⟩ := hdep 1 _ 41 (by kernel_rfl) rfl rfl;rw [if_pos (by simp [Region.wanted, yielded, e1])];go_simp;exact hK.out _ _ hg rfl (fun _ _ h => h)
       case d4 =>
        intro a w' hoff hg hdep K hK;obtain ⟨_, e2, rfl⟩ := hdep 2 _ 42 (by kernel_rfl) rfl rfl;obtain ⟨_, e3, rfl⟩ := hdep 3 _ 43 (by kernel_rfl) rfl rfl;obtain ⟨_, e1, rfl⟩ := hdep 1 _ 41 (by kernel_rfl) rfl rfl;rw [if_pos (by simp [Region.wanted, yielded, e1])];go_simp;exact hK.out _ _ hg rfl (fun _ _ h => h)
       case d5 =>
        intro a w' hoff hg hdep K hK;obtain ⟨_, e4, rfl⟩ := hdep 4 _ 44 (by kernel_rfl) rfl rfl;obtain ⟨_, e1, rfl⟩ := hdep 1 _ 41 (by kernel_rfl) rfl rfl;rw [if_pos (by simp [Region.wanted, yielded, e1])];have q0 := (hg.cell (p := ⟨xb, xo + r * 3, none⟩) (cell_lt x0)).trans x0;have q1 := (hg.cell (p := ⟨xb, xo + r * 3 + 1, none⟩) (cell_lt x1)).trans x1;have q2 := (hg.cell (p := ⟨xb, xo + r * 3 + 2, none⟩) (cell_lt x2)).trans x2;go_simp;exact hK.out _ _ hg rfl (fun _ _ h => h)
       case d6 =>
        intro a w' hoff hg hdep K hK;have h6 := off_at hoff 6 (v := .slice (some ⟨zb, zo, none⟩) L.length lc) (by kernel_rfl) rfl;obtain ⟨_, e1, rfl⟩ := hdep 1 _ 41 (by kernel_rfl) rfl rfl;rw [if_pos (by simp [Region.wanted, yielded, e1])];go_simp;exact hK.out _ _ hg rfl (fun _ _ h => h)
       case d7 =>
        intro a w' hoff hg hdep K hK;have h9 := off_at hoff 9 (v := .int .i64 (q : Int)) (by kernel_rfl) rfl;obtain ⟨_, e1, rfl⟩ := hdep 1 _ 41 (by kernel_rfl) rfl rfl;rw [if_pos (by simp [Region.wanted, yielded, e1])];go_simp;exact hK.out _ _ hg rfl (fun _ _ h => h)
       case d8 =>
        intro a w' hoff hg hdep K hK;obtain ⟨_, e6, rfl⟩ := hdep 6 _ 46 (by kernel_rfl) rfl rfl;obtain ⟨_, e7, rfl⟩ := hdep 7 _ 47 (by kernel_rfl) rfl rfl;obtain ⟨_, e1, rfl⟩ := hdep 1 _ 41 (by kernel_rfl) rfl rfl;rw [if_pos (by simp [Region.wanted, yielded, e1])];go_simp;exact hK.out _ _ hg rfl (fun _ _ h => h)
       case d9 =>
        intro a w' hoff hg hdep K hK;obtain ⟨_, e8, rfl⟩ := hdep 8 _ 48 (by kernel_rfl) rfl rfl;obtain ⟨_, e1, rfl⟩ := hdep 1 _ 41 (by kernel_rfl) rfl rfl;rw [if_pos (by simp [Region.wanted, yielded, e1])];have q0 := (hg.cell (p := ⟨zb, zo + q * 3, none⟩) (cell_lt y0)).trans y0;have q1 := (hg.cell (p := ⟨zb, zo + q * 3 + 1, none⟩) (cell_lt y1)).trans y1;have q2 := (hg.cell (p := ⟨zb, zo + q * 3 + 2, none⟩) (cell_lt y2)).trans y2;go_simp;exact hK.out _ _ hg rfl (fun _ _ h => h)
       case d10 =>
        intro a w' hoff hg hdep K hK;have h7 := off_at hoff 7 (v := .int .i64 (ka : Int)) (by kernel_rfl) rfl;obtain ⟨_, e1, rfl⟩ := hdep 1 _ 41 (by kernel_rfl) rfl rfl;rw [if_pos (by simp [Region.wanted, yielded, e1])];go_simp;exact hK.out _ _ hg rfl (fun _ _ h => h)
       case d11 =>
        intro a w' hoff hg hdep K hK;obtain ⟨_, e5, rfl⟩ := hdep 5 _ 45 (by kernel_rfl) rfl rfl;obtain ⟨_, e9, rfl⟩ := hdep 9 _ 49 (by kernel_rfl) rfl rfl;obtain ⟨_, e10, rfl⟩ := hdep 10 _ 50 (by kernel_rfl) rfl rfl;obtain ⟨_, e1, rfl⟩ := hdep 1 _ 41 (by kernel_rfl) rfl rfl;rw [if_pos (by simp [Region.wanted, yielded, e1])];go_simp;refine (alike_any x y (ka : Int) (fun k => k < wx.heap.size) w' _ _ (fun k hk => Nat.lt_of_lt_of_le hk (Nat.le_trans HSZ.out hg.size)) (RepRo.on (fun _ h => h) (fun k hk => hg.block k (Nat.lt_of_lt_of_le hk HSZ.out)) HX.out) (RepRo.on (fun _ h => h) (fun k hk => hg.block k (Nat.lt_of_lt_of_le hk HSZ.out)) HY.out)).mono ?_;rintro e w6 ⟨rfl, hb⟩;rw [HV.out];exact hK.out _ _ (Below.step hg hb) rfl (fSt trivial)
       case d12 =>
        intro a w' hoff hg hdep K hK;obtain ⟨_, e1, rfl⟩ := hdep 1 _ 41 (by kernel_rfl) rfl rfl;obtain ⟨_, e11, rfl⟩ := hdep 11 _ 51 (by kernel_rfl) rfl rfl;rw [if_pos (by rfl)];go_simp;exact hK.out _ _ hg rfl (fun _ _ h => h)
       case dlast =>
        intro a w' hoff hg hf;obtain ⟨_, e0, rfl⟩ := hf 0 _ 40 (by decide) rfl rfl;obtain ⟨_, e1, rfl⟩ := hf 1 _ 41 (by decide) rfl rfl;obtain ⟨_, e2, rfl⟩ := hf 2 _ 42 (by decide) rfl rfl;obtain ⟨_, e3, rfl⟩ := hf 3 _ 43 (by decide) rfl rfl;obtain ⟨_, e4, rfl⟩ := hf 4 _ 44 (by decide) rfl rfl;obtain ⟨_, e5, rfl⟩ := hf 5 _ 45 (by decide) rfl rfl;obtain ⟨_, e6, rfl⟩ := hf 6 _ 46 (by decide) rfl rfl;obtain ⟨_, e7, rfl⟩ := hf 7 _ 47 (by decide) rfl rfl;obtain ⟨_, e8, rfl⟩ := hf 8 _ 48 (by decide) rfl rfl;obtain ⟨_, e9, rfl⟩ := hf 9 _ 49 (by decide) rfl rfl;obtain ⟨_, e10, rfl⟩ := hf 10 _ 50 (by decide) rfl rfl;obtain ⟨_, e11, rfl⟩ := hf 11 _ 51 (by decide) rfl rfl;obtain ⟨_, e12, rfl⟩ := hf 12 _ 52 (by decide) rfl rfl;rw [if_pos (by rfl)];rw [hoff.sets [(40, .bool false), (41, .bool false), (42, .slice (some ⟨xb, xo, none⟩) M.length mc), (43, .int .i64 (r : Int)), (44, .pointer (some ⟨xb, xo + r * 3, none⟩)), (45, .agg #[.string x.name, .slice xf x.args.length xc, .int .i64 x.stamp]), (46, .slice (some ⟨zb, zo, none⟩) L.length lc), (47, .int .i64 (q : Int)), (48, .pointer (some ⟨zb, zo + q * 3, none⟩)), (49, .agg #[.string y.name, .slice yf y.args.length yc, .int .i64 y.stamp]), (50, .int .i64 (ka : Int)), (51, .bool false), (52, .bool false)] (by kernel_rfl) (by intro p hp; simp only [List.mem_cons, List.not_mem_nil, or_false] at hp; rcases hp with rfl | rfl | rfl | rfl | rfl | rfl | rfl | rfl | rfl | rfl | rfl | rfl | rfl <;> assumption)];clear hoff hf e0 e1 e2 e3 e4 e5 e6 e7 e8 e9 e10 e11 e12;simp only [List.foldl_cons, List.foldl_nil, List.setIfInBounds_toArray, List.set_cons_zero, List.set_cons_succ]
        go_simp;have HBN := Lib.hid (Below.step hbr.out hg);clear hg hbr x0 x1 x2 y0 y1 y2;go_wp2_with fail
        go_roundw
        case rel => exact ⟨r + 1, HLR.out, by go_num, by rw [any_snoc _ _ HLR.out, ← Bool.or_assoc, HC.out, HV2.out] <;> rfl, HBN.out⟩
        case measure => have := HLR.out; simp [intOf]; omega
      ·refine wp_region_factsL (by rfl) 105 (by rfl) (by kernel_rfl) (FA [.e (.bool false), .e (.bool false), .e (.slice (some ⟨xb, xo, none⟩) M.length mc), .e (.int .i64 (r : Int)), .e (.pointer (some ⟨xb, xo + r * 3, none⟩)), .e (.agg #[.string x.name, .slice xf x.args.length xc, .int .i64 x.stamp]), .e (.slice (some ⟨zb, zo, none⟩) L.length lc), .e (.int .i64 (q : Int)), .e (.pointer (some ⟨zb, zo + q * 3, none⟩)), .e (.agg #[.string y.name, .slice yf y.args.length yc, .int .i64 y.stamp]), .e (.int .i64 (ka : Int)), .e (.bool true), .e (.bool true)]) (fun w' => Below wr.heap.size wr w') (Below.drew (Below.refl _ _)) ⟨?e0, ?e1, ?e2, ?e3, ?e4, ?e5, ?e6, ?e7, ?e8, ?e9, ?e10, ?e11, ?e12, trivial⟩ (by rfl) ?elast (by decide)
       case e0 =>
        intro a w' hoff hg hdep K hK;have h10 := off_at hoff 10 (v := .bool false) (by kernel_rfl) rfl;rw [if_pos (by rfl)];go_simp;exact hK.out _ _ hg rfl (fun _ _ h => h)
       case e1 =>
        intro a w' hoff hg hdep K hK;obtain ⟨_, e0, rfl⟩ := hdep 0 _ 40 (by kernel_rfl) rfl rfl;rw [if_pos (by rfl)];go_simp;exact hK.out _ _ hg rfl (fun _ _ h => h)
       case e2 =>
        intro a w' hoff hg hdep K hK;have h8 := off_at hoff 8 (v := .slice (some ⟨xb, xo, none⟩) M.length mc) (by kernel_rfl) rfl;obtain ⟨_, e1, rfl⟩ := hdep 1 _ 41 (by kernel_rfl) rfl rfl;rw [if_pos (by simp [Region.wanted, yielded, e1])];go_simp;exact hK.out _ _ hg rfl (fun _ _ h => h)
       case e3 =>
        intro a w' hoff hg hdep K hK;have h11 := off_at hoff 11 (v := .int .i64 (r : Int)) (by kernel_rfl) rfl;obtain ⟨_, e1, rfl⟩ := hdep 1 _ 41 (by kernel_rfl) rfl rfl;rw [if_pos (by simp [Region.wanted, yielded, e1])];go_simp;exact hK.out _ _ hg rfl (fun _ _ h => h)
       case e4 =>
        intro a w' hoff hg hdep K hK;obtain ⟨_, e2, rfl⟩ := hdep 2 _ 42 (by kernel_rfl) rfl rfl;obtain ⟨_, e3, rfl⟩ := hdep 3 _ 43 (by kernel_rfl) rfl rfl;obtain ⟨_, e1, rfl⟩ := hdep 1 _ 41 (by kernel_rfl) rfl rfl;rw [if_pos (by simp [Region.wanted, yielded, e1])];go_simp;exact hK.out _ _ hg rfl (fun _ _ h => h)
       case e5 =>
        intro a w' hoff hg hdep K hK;obtain ⟨_, e4, rfl⟩ := hdep 4 _ 44 (by kernel_rfl) rfl rfl;obtain ⟨_, e1, rfl⟩ := hdep 1 _ 41 (by kernel_rfl) rfl rfl;rw [if_pos (by simp [Region.wanted, yielded, e1])];have q0 := (hg.cell (p := ⟨xb, xo + r * 3, none⟩) (cell_lt x0)).trans x0;have q1 := (hg.cell (p := ⟨xb, xo + r * 3 + 1, none⟩) (cell_lt x1)).trans x1;have q2 := (hg.cell (p := ⟨xb, xo + r * 3 + 2, none⟩) (cell_lt x2)).trans x2;go_simp;exact hK.out _ _ hg rfl (fun _ _ h => h)
       case e6 =>
        intro a w' hoff hg hdep K hK;have h6 := off_at hoff 6 (v := .slice (some ⟨zb, zo, none⟩) L.length lc) (by kernel_rfl) rfl;obtain ⟨_, e1, rfl⟩ := hdep 1 _ 41 (by kernel_rfl) rfl rfl;rw [if_pos (by simp [Region.wanted, yielded, e1])];go_simp;exact hK.out _ _ hg rfl (fun _ _ h => h)
       case e7 =>
        intro a w' hoff hg hdep K hK;have h9 := off_at hoff 9 (v := .int .i64 (q : Int)) (by kernel_rfl) rfl;obtain ⟨_, e1, rfl⟩ := hdep 1 _ 41 (by kernel_rfl) rfl rfl;rw [if_pos (by simp [Region.wanted, yielded, e1])];go_simp;exact hK.out _ _ hg rfl (fun _ _ h => h)
       case e8 =>
        intro a w' hoff hg hdep K hK;obtain ⟨_, e6, rfl⟩ := hdep 6 _ 46 (by kernel_rfl) rfl rfl;obtain ⟨_, e7, rfl⟩ := hdep 7 _ 47 (by kernel_rfl) rfl rfl;obtain ⟨_, e1, rfl⟩ := hdep 1 _ 41 (by kernel_rfl) rfl rfl;rw [if_pos (by simp [Region.wanted, yielded, e1])];go_simp;exact hK.out _ _ hg rfl (fun _ _ h => h)
       case e9 =>
        intro a w' hoff hg hdep K hK;obtain ⟨_, e8, rfl⟩ := hdep 8 _ 48 (by kernel_rfl) rfl rfl;obtain ⟨_, e1, rfl⟩ := hdep 1 _ 41 (by kernel_rfl) rfl rfl;rw [if_pos (by simp [Region.wanted, yielded, e1])];have q0 := (hg.cell (p := ⟨zb, zo + q * 3, none⟩) (cell_lt y0)).trans y0;have q1 := (hg.cell (p := ⟨zb, zo + q * 3 + 1, none⟩) (cell_lt y1)).trans y1;have q2 := (hg.cell (p := ⟨zb, zo + q * 3 + 2, none⟩) (cell_lt y2)).trans y2;go_simp;exact hK.out _ _ hg rfl (fun _ _ h => h)
       case e10 =>
        intro a w' hoff hg hdep K hK;have h7 := off_at hoff 7 (v := .int .i64 (ka : Int)) (by kernel_rfl) rfl;obtain ⟨_, e1, rfl⟩ := hdep 1 _ 41 (by kernel_rfl) rfl rfl;rw [if_pos (by simp [Region.wanted, yielded, e1])];go_simp;exact hK.out _ _ hg rfl (fun _ _ h => h)
       case e11 =>
        intro a w' hoff hg hdep K hK;obtain ⟨_, e5, rfl⟩ := hdep 5 _ 45 (by kernel_rfl) rfl rfl;obtain ⟨_, e9, rfl⟩ := hdep 9 _ 49 (by kernel_rfl) rfl rfl;obtain ⟨_, e10, rfl⟩ := hdep 10 _ 50 (by kernel_rfl) rfl rfl;obtain ⟨_, e1, rfl⟩ := hdep 1 _ 41 (by kernel_rfl) rfl rfl;rw [if_pos (by simp [Region.wanted, yielded, e1])];go_simp;refine (alike_any x y (ka : Int) (fun k => k < wx.heap.size) w' _ _ (fun k hk => Nat.lt_of_lt_of_le hk (Nat.le_trans HSZ.out hg.size)) (RepRo.on (fun _ h => h) (fun k hk => hg.block k (Nat.lt_of_lt_of_le hk HSZ.out)) HX.out) (RepRo.on (fun _ h => h) (fun k hk => hg.block k (Nat.lt_of_lt_of_le hk HSZ.out)) HY.out)).mono ?_;rintro e w6 ⟨rfl, hb⟩;rw [HV.out];exact hK.out _ _ (Below.step hg hb) rfl (fSt trivial)
       case e12 =>
        intro a w' hoff hg hdep K hK;obtain ⟨_, e1, rfl⟩ := hdep 1 _ 41 (by kernel_rfl) rfl rfl;obtain ⟨_, e11, rfl⟩ := hdep 11 _ 51 (by kernel_rfl) rfl rfl;rw [if_pos (by rfl)];go_simp;exact hK.out _ _ hg rfl (fun _ _ h => h)
       case elast =>
        intro a w' hoff hg hf;obtain ⟨_, e0, rfl⟩ := hf 0 _ 40 (by decide) rfl rfl;obtain ⟨_, e1, rfl⟩ := hf 1 _ 41 (by decide) rfl rfl;obtain ⟨_, e2, rfl⟩ := hf 2 _ 42 (by decide) rfl rfl;obtain ⟨_, e3, rfl⟩ := hf 3 _ 43 (by decide) rfl rfl;obtain ⟨_, e4, rfl⟩ := hf 4 _ 44 (by decide) rfl rfl;obtain ⟨_, e5, rfl⟩ := hf 5 _ 45 (by decide) rfl rfl;obtain ⟨_, e6, rfl⟩ := hf 6 _ 46 (by decide) rfl rfl;obtain ⟨_, e7, rfl⟩ := hf 7 _ 47 (by decide) rfl rfl;obtain ⟨_, e8, rfl⟩ := hf 8 _ 48 (by decide) rfl rfl;obtain ⟨_, e9, rfl⟩ := hf 9 _ 49 (by decide) rfl rfl;obtain ⟨_, e10, rfl⟩ := hf 10 _ 50 (by decide) rfl rfl;obtain ⟨_, e11, rfl⟩ := hf 11 _ 51 (by decide) rfl rfl;obtain ⟨_, e12, rfl⟩ := hf 12 _ 52 (by decide) rfl rfl;rw [if_pos (by rfl)];rw [hoff.sets [(40, .bool false), (41, .bool false), (42, .slice (some ⟨xb, xo, none⟩) M.length mc), (43, .int .i64 (r : Int)), (44, .pointer (some ⟨xb, xo + r * 3, none⟩)), (45, .agg #[.string x.name, .slice xf x.args.length xc, .int .i64 x.stamp]), (46, .slice (some ⟨zb, zo, none⟩) L.length lc), (47, .int .i64 (q : Int)), (48, .pointer (some ⟨zb, zo + q * 3, none⟩)), (49, .agg #[.string y.name, .slice yf y.args.length yc, .int .i64 y.stamp]), (50, .int .i64 (ka : Int)), (51, .bool true), (52, .bool true)] (by kernel_rfl) (by intro p hp; simp only [List.mem_cons, List.not_mem_nil, or_false] at hp; rcases hp with rfl | rfl | rfl | rfl | rfl | rfl | rfl | rfl | rfl | rfl | rfl | rfl | rfl <;> assumption)];clear hoff hf e0 e1 e2 e3 e4 e5 e6 e7 e8 e9 e10 e11 e12;simp only [List.foldl_cons, List.foldl_nil, List.setIfInBounds_toArray, List.set_cons_zero, List.set_cons_succ]
        go_simp;have HBN := Lib.hid (Below.step hbr.out hg);clear hg hbr x0 x1 x2 y0 y1 y2;go_wp2_with fail
        go_roundw
        case rel => exact ⟨r + 1, HLR.out, by go_num, by rw [any_snoc _ _ HLR.out, ← Bool.or_assoc, HC.out, HV2.out] <;> rfl, HBN.out⟩
        case measure => have := HLR.out; simp [intOf]; omega
     ·go_upto_region 12 with fail
      refine wp_region_factsL (by rfl) 105 (by rfl) (by kernel_rfl) (FA [.e (.bool true), .e (.bool true), .e undef, .e undef, .e undef, .e undef, .e undef, .e undef, .e undef, .e undef, .e undef, .e undef, .e (.bool true)]) (fun w' => Below wr.heap.size wr w') (Below.drew (Below.refl _ _)) ⟨?f0, ?f1, ?f2, ?f3, ?f4, ?f5, ?f6, ?f7, ?f8, ?f9, ?f10, ?f11, ?f12, trivial⟩ (by rfl) ?flast (by decide)
      case f0 =>
       intro a w' hoff hg hdep K hK;have h10 := off_at hoff 10 (v := .bool true) (by kernel_rfl) rfl;rw [if_pos (by rfl)];go_simp;exact hK.out _ _ hg rfl (fun _ _ h => h)
      case f1 =>
       intro a w' hoff hg hdep K hK;obtain ⟨_, e0, rfl⟩ := hdep 0 _ 40 (by kernel_rfl) rfl rfl;rw [if_pos (by rfl)];go_simp;exact hK.out _ _ hg rfl (fun _ _ h => h)
      case f2 =>
       intro a w' hoff hg hdep K hK;have h8 := off_at hoff 8 (v := .slice (some ⟨xb, xo, none⟩) M.length mc) (by kernel_rfl) rfl;obtain ⟨_, e1, rfl⟩ := hdep 1 _ 41 (by kernel_rfl) rfl rfl;rw [if_neg (by simp [Region.wanted, yielded, e1])];exact hK.out _ _ hg rfl (fun _ _ h => h)
      case f3 =>
       intro a w' hoff hg hdep K hK;have h11 := off_at hoff 11 (v := .int .i64 (r : Int)) (by kernel_rfl) rfl;obtain ⟨_, e1, rfl⟩ := hdep 1 _ 41 (by kernel_rfl) rfl rfl;rw [if_neg (by simp [Region.wanted, yielded, e1])];exact hK.out _ _ hg rfl (fun _ _ h => h)
      case f4 =>
       intro a w' hoff hg hdep K hK;obtain ⟨v2, e2, f2⟩ := hdep 2 _ 42 (by kernel_rfl) rfl rfl;obtain rfl : undef = v2 := Eq.symm f2;obtain ⟨v3, e3, f3⟩ := hdep 3 _ 43 (by kernel_rfl) rfl rfl;obtain rfl : undef = v3 := Eq.symm f3;obtain ⟨_, e1, rfl⟩ := hdep 1 _ 41 (by kernel_rfl) rfl rfl;rw [if_neg (by simp [Region.wanted, yielded, e1])];exact hK.out _ _ hg rfl (fun _ _ h => h)
      case f5 =>
       intro a w' hoff hg hdep K hK;obtain ⟨v4, e4, f4⟩ := hdep 4 _ 44 (by kernel_rfl) rfl rfl;obtain rfl : undef = v4 := Eq.symm f4;obtain ⟨_, e1, rfl⟩ := hdep 1 _ 41 (by kernel_rfl) rfl rfl;rw [if_neg (by simp [Region.wanted, yielded, e1])];exact hK.out _ _ hg rfl (fun _ _ h => h)
      case f6 =>
       intro a w' hoff hg hdep K hK;have h6 := off_at hoff 6 (v := .slice (some ⟨zb, zo, none⟩) L.length lc) (by kernel_rfl) rfl;obtain ⟨_, e1, rfl⟩ := hdep 1 _ 41 (by kernel_rfl) rfl rfl;rw [if_neg (by simp [Region.wanted, yielded, e1])];exact hK.out _ _ hg rfl (fun _ _ h => h)
      case f7 =>
       intro a w' hoff hg hdep K hK;have h9 := off_at hoff 9 (v := .int .i64 (q : Int)) (by kernel_rfl) rfl;obtain ⟨_, e1, rfl⟩ := hdep 1 _ 41 (by kernel_rfl) rfl rfl;rw [if_neg (by simp [Region.wanted, yielded, e1])];exact hK.out _ _ hg rfl (fun _ _ h => h)
      case f8 =>
       intro a w' hoff hg hdep K hK;obtain ⟨v6, e6, f6⟩ := hdep 6 _ 46 (by kernel_rfl) rfl rfl;obtain rfl : undef = v6 := Eq.symm f6;obtain ⟨v7, e7, f7⟩ := hdep 7 _ 47 (by kernel_rfl) rfl rfl;obtain rfl : undef = v7 := Eq.symm f7;obtain ⟨_, e1, rfl⟩ := hdep 1 _ 41 (by kernel_rfl) rfl rfl;rw [if_neg (by simp [Region.wanted, yielded, e1])];exact hK.out _ _ hg rfl (fun _ _ h => h)
      case f9 =>
       intro a w' hoff hg hdep K hK;obtain ⟨v8, e8, f8⟩ := hdep 8 _ 48 (by kernel_rfl) rfl rfl;obtain rfl : undef = v8 := Eq.symm f8;obtain ⟨_, e1, rfl⟩ := hdep 1 _ 41 (by kernel_rfl) rfl rfl;rw [if_neg (by simp [Region.wanted, yielded, e1])];exact hK.out _ _ hg rfl (fun _ _ h => h)
      case f10 =>
       intro a w' hoff hg hdep K hK;have h7 := off_at hoff 7 (v := .int .i64 (ka : Int)) (by kernel_rfl) rfl;obtain ⟨_, e1, rfl⟩ := hdep 1 _ 41 (by kernel_rfl) rfl rfl;rw [if_neg (by simp [Region.wanted, yielded, e1])];exact hK.out _ _ hg rfl (fun _ _ h => h)
      case f11 =>
       intro a w' hoff hg hdep K hK;obtain ⟨v5, e5, f5⟩ := hdep 5 _ 45 (by kernel_rfl) rfl rfl;obtain rfl : undef = v5 := Eq.symm f5;obtain ⟨v9, e9, f9⟩ := hdep 9 _ 49 (by kernel_rfl) rfl rfl;obtain rfl : undef = v9 := Eq.symm f9;obtain ⟨v10, e10, f10⟩ := hdep 10 _ 50 (by kernel_rfl) rfl rfl;obtain rfl : undef = v10 := Eq.symm f10;obtain ⟨_, e1, rfl⟩ := hdep 1 _ 41 (by kernel_rfl) rfl rfl;rw [if_neg (by simp [Region.wanted, yielded, e1])];exact hK.out _ _ hg rfl (fun _ _ h => h)
      case f12 =>
       intro a w' hoff hg hdep K hK;obtain ⟨_, e1, rfl⟩ := hdep 1 _ 41 (by kernel_rfl) rfl rfl;obtain ⟨v11, e11, f11⟩ := hdep 11 _ 51 (by kernel_rfl) rfl rfl;obtain rfl : undef = v11 := Eq.symm f11;rw [if_pos (by rfl)];go_simp;exact hK.out _ _ hg rfl (fun _ _ h => h)
      case flast =>
       intro a w' hoff hg hf;obtain ⟨_, e0, rfl⟩ := hf 0 _ 40 (by decide) rfl rfl;obtain ⟨_, e1, rfl⟩ := hf 1 _ 41 (by decide) rfl rfl;obtain ⟨v2, e2, f2⟩ := hf 2 _ 42 (by decide) rfl rfl;obtain rfl : undef = v2 := Eq.symm f2;obtain ⟨v3, e3, f3⟩ := hf 3 _ 43 (by decide) rfl rfl;obtain rfl : undef = v3 := Eq.symm f3;obtain ⟨v4, e4, f4⟩ := hf 4 _ 44 (by decide) rfl rfl;obtain rfl : undef = v4 := Eq.symm f4;obtain ⟨v5, e5, f5⟩ := hf 5 _ 45 (by decide) rfl rfl;obtain rfl : undef = v5 := Eq.symm f5;obtain ⟨v6, e6, f6⟩ := hf 6 _ 46 (by decide) rfl rfl;obtain rfl : undef = v6 := Eq.symm f6;obtain ⟨v7, e7, f7⟩ := hf 7 _ 47 (by decide) rfl rfl;obtain rfl : undef = v7 := Eq.symm f7;obtain ⟨v8, e8, f8⟩ := hf 8 _ 48 (by decide) rfl rfl;obtain rfl : undef = v8 := Eq.symm f8;obtain ⟨v9, e9, f9⟩ := hf 9 _ 49 (by decide) rfl rfl;obtain rfl : undef = v9 := Eq.symm f9;obtain ⟨v10, e10, f10⟩ := hf 10 _ 50 (by decide) rfl rfl;obtain rfl : undef = v10 := Eq.symm f10;obtain ⟨v11, e11, f11⟩ := hf 11 _ 51 (by decide) rfl rfl;obtain rfl : undef = v11 := Eq.symm f11;obtain ⟨_, e12, rfl⟩ := hf 12 _ 52 (by decide) rfl rfl;rw [if_pos (by rfl)];rw [hoff.sets [(40, .bool true), (41, .bool true), (42, undef), (43, undef), (44, undef), (45, undef), (46, undef), (47, undef), (48, undef), (49, undef), (50, undef), (51, undef), (52, .bool true)] (by kernel_rfl) (by intro p hp; simp only [List.mem_cons, List.not_mem_nil, or_false] at hp; rcases hp with rfl | rfl | rfl | rfl | rfl | rfl | rfl | rfl | rfl | rfl | rfl | rfl | rfl <;> assumption)];clear hoff hf e0 e1 e2 e3 e4 e5 e6 e7 e8 e9 e10 e11 e12;simp only [List.foldl_cons, List.foldl_nil, List.setIfInBounds_toArray, List.set_cons_zero, List.set_cons_succ]
       go_simp;have HBN := Lib.hid (Below.step hbr.out hg);clear hg hbr x0 x1 x2 y0 y1 y2;go_wp2_with fail
       go_roundw
       case rel => exact ⟨r + 1, HLR.out, by go_num, by rw [any_snoc _ _ HLR.out, ← Bool.or_assoc, HC.out] <;> rfl, HBN.out⟩
       case measure => have := HLR.out; simp [intOf]; omega
    ·have hrl : r = M.length := by omega
     have HIN : Hid ((b || (M.take r).any fun x => alikeB (ka : Int) x y) = inB ka M y) := by show _ = _; rw [hrl, List.take_length, ← HBD.out]; rfl
     rw [HIN.out];have hlq2 : (q : Int) < (L.length : Int) := by have := HLQ.out; omega
     have k0 : (0 : Int) ≤ (q : Int) := Int.natCast_nonneg _;have k1 : decide ((r : Int) < (M.length : Int)) = false := decide_eq_false (by omega);have k2 : decide (r < M.length) = false := decide_eq_false (by omega);obtain ⟨t, ht⟩ : ∃ t, inB ka M y = t := ⟨_, rfl⟩;rw [ht] at HSN ⊢;clear hr hlr hrl HIN ht;have HBZ : Hid (Below w2.heap.size w2 wr) := Below.step HBO2.out hbr.out;have HMZ : Hid (MineS kdRo (fun k => k < w2.heap.size) wr w2.heap.size M (.slice ma M.length mc)) := MineS.on HMI.out hbr.out
     cases t
     ·have HNX : Hid (onceL ka (L.take (q + 1)) = M ++ [y]) := HSN.out
      obtain ⟨yb, yo, yf, yc, hey, hSy, y0, y1, y2, hy, -⟩ := RosP.at HL.out HBZ.out q HLQ.out;have he2 := Option.some.inj hey
      injection he2 with e1 e2 e3
      subst e1 e2;rw [HYY.out] at hy y0 y1 y2;obtain ⟨a6, c6, w6, hrun, hm6, hb6⟩ := put_row HMZ.out HBZ.out.size (fun k hk => hk) (by omega) hy 40;have HRUN := Lib.hid hrun; have HM6 := Lib.hid hm6
      have HB6 : Hid (Below w2.heap.size w2 w6) := HBZ.out.trans hb6;clear hey e3 hSy hy hrun hm6 hb6 HMZ HBZ HMI HBO2 hbr;go_wp2_with (at_builtin; refine wpList_append_by rfl _ _ _ rfl rfl rfl HRUN.out ?_; clear HRUN)
      go_roundw
      case rel => exact ⟨q + 1, HLQ.out, by go_num, (by show MineS _ _ _ _ _ _; rw [HNX.out]; exact HM6.out), HB6⟩
      case measure => have := HLQ.out; simp [intOf]; omega
     ·have HNX : Hid (onceL ka (L.take (q + 1)) = M) := HSN.out
      clear HMI HBO2 hbr;go_wp2_with fail
      go_roundw
      case rel => exact ⟨q + 1, HLQ.out, by go_num, (by show MineS _ _ _ _ _ _; rw [HNX.out]; exact HMZ.out), HBZ⟩
      case measure => have := HLQ.out; simp [intOf]; omega
  ·have hql : q = L.length := by omega
   have HE : Hid (onceL ka (L.take q) = onceL ka L) := by show _ = _; rw [hql, List.take_length]
   rw [HE.out] at hm hml;have k1 : decide ((q : Int) < (L.length : Int)) = false := decide_eq_false (by omega);have k2 : decide (q < L.length) = false := decide_eq_false (by omega);obtain ⟨ma, mc, rfl⟩ := MineS.form hm.out;have HMR : Hid (RosP (onceL ka L) wr (.slice ma (onceL ka L).length mc)) := MineS.ros hm.out (by omega);have HBW := hbq;clear hq hlq hql HE hm hbq;generalize wr = wx at *;obtain ⟨M, hM⟩ : ∃ M, onceL ka L = M := ⟨_, rfl⟩;rw [hM] at HMR hml ⊢;have HM := Lib.hid hM;clear hM;go_wp2_with fail
   refine (group_any sCount (ka : Int) M (fun k => k < wx.heap.size) wx _ (by have := HK.out; unfold I64; omega) (fun _ h => h) HMR.out).mono ?_;rintro e w8 ⟨hb, G, v, rfl, -, hgi, hv⟩;have hgi := hgi agg_count (by have := HK.out; omega);rw [Int.toNat_natCast, ← HM.out] at hgi;have hros : RosP G w8 v := RosP.of hv (fun k hk => hk.2);obtain ⟨ga, gc, rfl⟩ := SlG.form hros;have HG := Lib.hid hros;obtain ⟨h1, h2⟩ := once_one HR.out hgi;rw [HM.out] at h2;have HONE := Lib.hid h1; have HLN := Lib.hid h2
   have hG63 : G.length ≤ 40 := by omega
   replace HMR : Hid (RosP M w8 (.slice ma M.length mc)) := HMR.out.on hb;replace HBW : Hid (Below w2.heap.size w2 w8) := Below.step HBW.out hb;clear hb hgi hv hros h1 h2;go_wp2_with fail
   go_loopw [13] (fun iv wr => ∃ i : Nat, i ≤ G.length ∧ iv = .int .i64 (i : Int) ∧ Hid (Below w8.heap.size w8 wr)) (fun iv _ => G.length - (intOf iv).toNat)
   case atStart => exact ⟨0, Nat.zero_le _, rfl, Below.refl _ _⟩
   case round =>
    obtain ⟨i, hi, rfl, hbq⟩ := hrel
    by_cases hlq : i < G.length
    ·obtain ⟨hxn, hxc⟩ := HONE.out G[i] (List.getElem_mem hlq)
     obtain ⟨xb, xo, xf, xc, hex, hSx, x0, x1, x2, hx, -⟩ := RosP.at HG.out hbq.out i hlq;subst hex;have k1 : decide ((i : Int) < (G.length : Int)) = true := decide_eq_true (by omega);have k2 : decide (i < G.length) = true := decide_eq_true (by omega);have k3 : (0 : Int) ≤ (i : Int) := Int.natCast_nonneg _;have k4 : (i : Int) < (G.length : Int) := by omega
     obtain ⟨ub, uo, ua, uac, hue, u0, u1, u2, u3, -⟩ := arg_of hx hxn;subst hue;rw [hxc] at u0 u1 u2 u3;have u1' : wr.cell? ⟨ub, uo + ka * 4 + 1, none⟩ = some (.int .i64 1) := u1;clear hx hSx hi hxc u0 u1 u2 u3;generalize hxx : G[i] = x at *;have HLQ := Lib.hid hlq;clear hxx hlq;have k5 : (0 : Int) ≤ (ka : Int) := Int.natCast_nonneg _;have k6 : (ka : Int) < (x.args.length : Int) := by omega
     go_wp2_with fail
     go_roundw
     case rel => exact ⟨i + 1, HLQ.out, by go_num, hbq.out⟩
     case measure => have := HLQ.out; simp [intOf]; omega
    ·have hil : i = G.length := by omega
     have k1 : decide ((i : Int) < (G.length : Int)) = false := decide_eq_false (by omega);have k2 : decide (i < G.length) = false := decide_eq_false (by omega);have k5 : ((G.length : Int) == (M.length : Int)) = true := by rw [HLN.out]; simp
     have k6 : (G.length == M.length) = true := by rw [HLN.out]; simp
     clear hi hlq hil;replace HMR : Hid (RosP M wr (.slice ma M.length mc)) := HMR.out.on hbq.out;replace HBW : Hid (Below w2.heap.size w2 wr) := Below.step HBW.out hbq.out;clear hbq HG;go_wp2_with fail
     clear k1 k2 k5 k6;refine (group_any sMin (ka : Int) M (fun k => k < wr.heap.size) wr _ (by have := HK.out; unfold I64; omega) (fun _ h => h) HMR.out).mono ?_;rintro e wma ⟨hb, wmG, v, rfl, -, hgi, hv⟩;have hgi := hgi agg_min (by have := HK.out; omega);rw [Int.toNat_natCast, ← HM.out] at hgi;have hros : RosP wmG wma v := RosP.of hv (fun k hk => hk.2);obtain ⟨ja, jc, rfl⟩ := SlG.form hros;have HG := Lib.hid hros; have HGI := Lib.hid hgi
     replace HMR : Hid (RosP M wma (.slice ma M.length mc)) := HMR.out.on hb;replace HBW : Hid (Below w2.heap.size w2 wma) := Below.step HBW.out hb;clear hb hgi hv hros;go_wp2_with fail
     refine (Merge_any M (fun k => k < wma.heap.size) wma _ (fun _ h => h) HMR.out).mono ?_;intro e wmb hpost;obtain ⟨hb, wmR, v, hmr, rfl, hv⟩ := MergePost.slg hpost;clear hpost;rw [← HM.out] at hmr;obtain rfl := once_same agg_min sMin_c HR.out HGI.out hmr;have hros : RosP wmG wmb v := RosP.of hv (fun k hk => hk.2);obtain ⟨ra, rc, rfl⟩ := SlG.form hros;replace HG : Hid (RosP wmG wmb (.slice ja wmG.length jc)) := HG.out.on hb;have HG2 := Lib.hid hros;replace HMR : Hid (RosP M wmb (.slice ma M.length mc)) := HMR.out.on hb;replace HBW : Hid (Below w2.heap.size w2 wmb) := Below.step HBW.out hb;clear hb hmr hv hros HGI;go_wp2_with fail
     refine (same10_any wmG wmG (fun k => k < wmb.heap.size) wmb _ _ (fun _ h => h) HG.out HG2.out).mono ?_;rintro e wmc ⟨rfl, hb⟩;rw [(sameRos_iff _ _).2 rfl];replace HMR : Hid (RosP M wmc (.slice ma M.length mc)) := HMR.out.on hb;replace HBW : Hid (Below w2.heap.size w2 wmc) := Below.step HBW.out hb;clear hb HG HG2;go_wp2_with fail
     refine (group_any sMax (ka : Int) M (fun k => k < wmc.heap.size) wmc _ (by have := HK.out; unfold I64; omega) (fun _ h => h) HMR.out).mono ?_;rintro e wna ⟨hb, wnG, v, rfl, -, hgi, hv⟩;have hgi := hgi agg_max (by have := HK.out; omega);rw [Int.toNat_natCast, ← HM.out] at hgi;have hros : RosP wnG wna v := RosP.of hv (fun k hk => hk.2);obtain ⟨ja, jc, rfl⟩ := SlG.form hros;have HG := Lib.hid hros; have HGI := Lib.hid hgi
     replace HMR : Hid (RosP M wna (.slice ma M.length mc)) := HMR.out.on hb;replace HBW : Hid (Below w2.heap.size w2 wna) := Below.step HBW.out hb;clear hb hgi hv hros;go_wp2_with fail
     refine (Merge_any M (fun k => k < wna.heap.size) wna _ (fun _ h => h) HMR.out).mono ?_;intro e wnb hpost;obtain ⟨hb, wnR, v, hmr, rfl, hv⟩ := MergePost.slg hpost;clear hpost;rw [← HM.out] at hmr;obtain rfl := once_same agg_max sMax_c HR.out HGI.out hmr;have hros : RosP wnG wnb v := RosP.of hv (fun k hk => hk.2);obtain ⟨ra, rc, rfl⟩ := SlG.form hros;replace HG : Hid (RosP wnG wnb (.slice ja wnG.length jc)) := HG.out.on hb;have HG2 := Lib.hid hros;replace HMR : Hid (RosP M wnb (.slice ma M.length mc)) := HMR.out.on hb;replace HBW : Hid (Below w2.heap.size w2 wnb) := Below.step HBW.out hb;clear hb hmr hv hros HGI;go_wp2_with fail
     refine (same10_any wnG wnG (fun k => k < wnb.heap.size) wnb _ _ (fun _ h => h) HG.out HG2.out).mono ?_;rintro e wnc ⟨rfl, hb⟩;rw [(sameRos_iff _ _).2 rfl];replace HMR : Hid (RosP M wnc (.slice ma M.length mc)) := HMR.out.on hb;replace HBW : Hid (Below w2.heap.size w2 wnc) := Below.step HBW.out hb;clear hb HG HG2
     skip
     go_wp2_with fail
     go_ret
     exact ⟨rfl, Below.step B.out HBW.out⟩
end Go.Proofs.Ytpnaegohjbaggaa.groupOnce
namespace Go.Proofs.Ytpnaegohjbaggaa.groupOnce
open Go.ChangeShapes Go.WideShapes Go.ChangeAt Go.RowKit
open Go.ChangeMaps (open_string)
set_option maxRecDepth 100000 in
theorem contract (H : Type) (enc : TypeId × Value → H) (W : World) (base : Nat) (args : Array Value) (ds gs : List (DataW H)) (before : List MemPlace)
  (hval : ∀ (j : Nat) t v, Try.f7.params[j]? = some t → args[j]? = some v → Value.okWide Try.prog W .any base t v)
  (hW : DataW.Whole enc Try.prog Try.f7.params.toList Rows.groupOnceSpec.vars false W args.toList ds gs before)
  (hz : (DataW.weightsEach Try.prog (Try.f7.params.toList ++ []) (ds ++ gs)).all (· ≤ reachBytes) = true) (_hL : laidMet Try.prog Rows.groupOnceRow.laid W) :
  Calls Try.prog 7 args W fun e W' => ∃ v, e = .returned v ∧ Rows.groupOnceSpec.post enc Try.prog Try.f7 false true false false W args v W' := by
 have hW' := hW;obtain ⟨p, q, hA0, hV, rfl, hfz, hnd⟩ := hW;have hA : DataW.TrodAll enc Try.prog W 0 (fun _ => true) true Try.f7.params.toList args.toList ds p := hA0;clear hA0;rw [Try.params7] at hA hval hz;obtain ⟨v0, vs0, d0, ds0, p0, q0, hargs, rfl, rfl, h0, r0⟩ := trodAll_cons hA;obtain ⟨v1, vs1, d1, ds1, p1, q1, rfl, rfl, rfl, h1, r1⟩ := trodAll_cons r0;obtain ⟨rfl, rfl, rfl⟩ := trodAll_nil r1;obtain rfl : args = #[v0, v1] := by cases args; simp_all
 obtain ⟨rfl, rfl⟩ := trodVars_none hV;have z0 : (DataW.weightsEach Try.prog [39, 3] [d0, d1]).all (· ≤ reachBytes) = true := by simpa using hz
 obtain ⟨f0, z1⟩ := fits_cons z0;obtain ⟨f1, z2⟩ := fits_cons z1;obtain ⟨x0, g0⟩ := open_rws (hval 0 39 v0 rfl rfl) h0 f0;obtain ⟨x1, rfl, rfl, rfl, g1⟩ := open_int Try.underlying3 (hval 1 3 v1 rfl rfl) h1
 -- USE: walk DATA W CELLS htab FACTS
 refine (walk x0 x1 W v0 g0 (i64_wf g1)).mono fun e W' ⟨he, hb⟩ => ⟨_, he, law_post rfl (by kernel_rfl) (fun t ht => ?_) hW' rfl hb⟩
 rw [Try.params7] at ht;have ht' : t = 39 ∨ t = 3 := by simpa using ht
 rcases ht' with rfl | rfl <;> exact ⟨by kernel_rfl, of_decide_eq_true (by kernel_rfl)⟩
set_option maxRecDepth 100000 in
theorem laid_met (os : Os) : laidMet Try.prog Rows.groupOnceRow.laid ((plainWorld os).forCall (fun _ _ => 0) ⟨#[], #[.slice none 0 0, .int .i64 0], []⟩).memory :=
 laidMet_of_run' 8 (by kernel_rfl) (by kernel_rfl)
set_option maxRecDepth 100000 in
theorem reads (os : Os) {H : Type} (enc : TypeId × Value → H) : ∃ places, DataW.whole enc Try.prog ((plainWorld os).forCall (fun _ _ => 0) ⟨#[], #[.slice none 0 0, .int .i64 0], []⟩).memory Try.f7.params.toList Rows.groupOnceSpec.vars false (#[.slice none 0 0, .int .i64 0] : Array Value).toList 8 = some ([.nil, .lit (.int .i64 0)], [], places) :=
 ⟨[], by kernel_rfl⟩
set_option maxRecDepth 100000 in
theorem lifted (os : Os) (started : os.Started) (H : Type) (enc : TypeId × Value → H) (F : Stop.Interp) :
  ReturnsInHanded {} Try.checked os 7 .any ((OpenSpec.ofChange Rows.groupOnceSpec).preRow enc Try.prog Try.f7 Rows.groupOnceRow.domain false Rows.groupOnceRow.laid) (((OpenSpec.ofChange Rows.groupOnceSpec).at F).post enc Try.prog Try.f7 false true false false) := by
 obtain ⟨places, hx⟩ := reads os enc
 refine returnsInHanded_of_row (C := Try.checked) (s := OpenSpec.ofChange Rows.groupOnceSpec) own started (by kernel_rfl) Try.func7
  (witness_row_at (enc := enc) (C := Try.checked) false (plainWorld os) #[.slice none 0 0, .int .i64 0] rfl (by kernel_rfl) (by kernel_rfl) (by kernel_rfl)
   (OpenSpec.preRow_of_cond 8 hx (by kernel_rfl) (fun k hk => by cases hk) (by kernel_rfl) (laid_met os))) ?_
 intro W base args ds gs before hval hW _ _ hz hL _ _;exact contract H enc W base args ds gs before hval hW hz hL
set_option maxRecDepth 100000 in
theorem said : Rows.GroupOnceSaid :=
 OpenClaim.holds_of_cond 7 Try.f7 rfl rfl rfl rfl rfl rfl rfl ⟨rfl, rfl, rfl, rfl, rfl⟩ rfl rfl rfl rfl rfl (by kernel_rfl) Try.func7 (by kernel_rfl)
  (of_decide_eq_true (by kernel_rfl)) (by unfold Func.isWrapper; first | (rw [if_pos (by decide +kernel)]; kernel_rfl) | (rw [if_neg (by decide +kernel)]; exact ⟨rfl, rfl⟩))
  (fun os started H enc _ F => by rw [OpenClaim.pre_eq_preRow]; exact lifted os started H enc F)
theorem holds : Rows.GroupOnceSaid := said
#print axioms holds
end Go.Proofs.Ytpnaegohjbaggaa.groupOnce
