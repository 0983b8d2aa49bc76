/-
  GrLawE, OwnSlgS, GrLawC, GrPart, GrOnce, GrLawO, GrLawT, LawGTurns, CardGTurns
-/
import Derived.Test.YtpnaegohjbaggaaKD24
import Derived.Test.YtpnaegohjbaggaaKD08
import Derived.Test.YtpnaegohjbaggaaKD20
import Derived.Test.YtpnaegohjbaggaaKD03
import Derived.Test.YtpnaegohjbaggaaKD02
namespace Go.Proofs.Ytpnaegohjbaggaa
open Go.RowKit
def argR (n : Nat) (x : Ro) : V := x.args.getD n (.mk 0 0 ⟨#[]⟩ [])
theorem argR_at {n : Nat} {x : Ro} (h : n < x.args.length) : argR n x = x.args[n] := by unfold argR; rw [List.getD_eq_getElem?_getD, List.getElem?_eq_getElem h]; rfl
open Classical in
noncomputable def thereB (n : Nat) (x : Ro) (l : List Ro) : Bool := decide (∃ y ∈ l, AlikeP (n : Int) x y ∧ cmpV (argR n y) (argR n x) = 0)
theorem thereB_nil (n : Nat) (x : Ro) : thereB n x [] = false := by unfold thereB; simp
theorem thereB_yes {n : Nat} {x : Ro} {l : List Ro} (h : ∃ y ∈ l, AlikeP (n : Int) x y ∧ cmpV (argR n y) (argR n x) = 0) : thereB n x l = true := by unfold thereB; simp only [decide_eq_true_eq]; exact h
theorem thereB_hit {n : Nat} {x y : Ro} {l : List Ro} (h1 : AlikeP (n : Int) x y) (h2 : cmpV (argR n y) (argR n x) = 0) : thereB n x (l ++ [y]) = true := thereB_yes ⟨y, by simp, h1, h2⟩
theorem thereB_miss {n : Nat} {x y : Ro} {l : List Ro} (h : ¬ (AlikeP (n : Int) x y ∧ cmpV (argR n y) (argR n x) = 0)) : thereB n x (l ++ [y]) = thereB n x l := by
 unfold thereB
 congr 1
 refine propext ⟨fun ⟨z, hz, a, c⟩ => ?_, fun ⟨z, hz, a, c⟩ => ⟨z, List.mem_append_left _ hz, a, c⟩⟩;rcases List.mem_append.1 hz with hz | hz
 ·exact ⟨z, hz, a, c⟩
 ·rw [List.mem_singleton.1 hz] at a c; exact absurd ⟨a, c⟩ h
def EndsI (n : Nat) (s : Int) (L G : List Ro) : Prop := ∀ x ∈ G, n < x.args.length ∧ thereB n x L = true ∧ ∀ y ∈ L, AlikeP (n : Int) x y → cmpV (argR n y) (argR n x) * s ≤ 0
theorem ends_min {n : Nat} {L G : List Ro} (hl : ∀ x ∈ L, rightRo x) (h : GroupIs sMin n L G) : EndsI n (-1) L G := fun x hx => by
 obtain ⟨hn, ⟨y, hy, ha, hyn, hc⟩, hall⟩ := group_min sMin_l hl h x hx;refine ⟨hn, thereB_yes ⟨y, hy, ha, by rw [argR_at hyn, argR_at hn]; exact hc⟩, fun z hz za => ?_⟩;have hzn : n < z.args.length := by rw [← za.2.1]; exact hn
 have := hall z hz za hzn;rw [argR_at hzn, argR_at hn]; omega
theorem ends_max {n : Nat} {L G : List Ro} (hl : ∀ x ∈ L, rightRo x) (h : GroupIs sMax n L G) : EndsI n 1 L G := fun x hx => by
 obtain ⟨hn, ⟨y, hy, ha, hyn, hc⟩, hall⟩ := group_max sMax_l hl h x hx;refine ⟨hn, thereB_yes ⟨y, hy, ha, by rw [argR_at hyn, argR_at hn]; exact hc⟩, fun z hz za => ?_⟩;have hzn : n < z.args.length := by rw [← za.2.1]; exact hn
 have := hall z hz za hzn;rw [argR_at hzn, argR_at hn]; omega
theorem arg_of {S : Nat → Prop} {w : World} {x : Ro} {a : Option Addr} {c : Nat} (h : RepRo S w x (.string x.name) (.slice a x.args.length c) (.int .i64 x.stamp)) {n : Nat} (hn : n < x.args.length) :
  ∃ ub uo va vc, a = some ⟨ub, uo, none⟩ ∧ w.cell? ⟨ub, uo + n * 4, none⟩ = some (.int .i64 (argR n x).kind) ∧ w.cell? ⟨ub, uo + n * 4 + 1, none⟩ = some (.int .i64 (argR n x).num) ∧ w.cell? ⟨ub, uo + n * 4 + 2, none⟩ = some (.string (argR n x).text) ∧ w.cell? ⟨ub, uo + n * 4 + 3, none⟩ = some (.slice va (argR n x).list.length vc) ∧
   RepG S w (argR n x) (.int .i64 (argR n x).kind) (.int .i64 (argR n x).num) (.string (argR n x).text) (.slice va (argR n x).list.length vc) := by
 obtain ⟨ub, uo, uc, va, vc, e, -, u0, u1, u2, u3, hu⟩ := arg_at (x := (x, .slice a x.args.length c)) h hn
 injection e with e1 e2 e3
 subst e1;rw [argR_at hn];exact ⟨ub, uo, va, vc, rfl, u0, u1, u2, u3, hu⟩
end Go.Proofs.Ytpnaegohjbaggaa
namespace Go.Proofs.Ytpnaegohjbaggaa
open Go.RowKit
section
variable {α : Type} {K : Kd α} {S : Nat → Prop}
theorem OwnK.slgS {w : World} {B : Nat} {l : List α} {v : Value} (h : OwnK K S w B l v) (hby : l.length * K.bytes ≤ 140737488355328) : SlG (fun b => S b ∨ (B ≤ b ∧ b < w.heap.size)) w K.n K.bytes (K.R (fun b => S b ∨ (B ≤ b ∧ b < w.heap.size)) w) l v := by
 obtain ⟨xs, ⟨hlen, hown⟩, hr⟩ := h;rcases hown with ⟨rfl, hn⟩ | ⟨g, cap, cur, rfl, hbg, hh, hnc, hcm, hcs, htk⟩
 ·obtain rfl : l = [] := List.length_eq_zero_iff.1 hn
  exact ⟨none, 0, 0, 0, rfl, Nat.le_refl _, by simp, fun h => by omega, fun h => by simp at h, fun i hi => by simp at hi⟩
 ·have hgl := (Array.getElem?_eq_some_iff.1 hh).1
  refine ⟨_, g, 0, cap, rfl, hnc, hby, fun _ => rfl, fun _ => .inr ⟨hbg, hgl⟩, fun i hi => ?_⟩;obtain ⟨c, hc, hR⟩ := hr i hi;refine ⟨c, fun j hj => ?_, K.on (fun k hk => .inl hk) (fun _ _ => rfl) hR⟩;have h1 := hc j hj;rw [← htk, List.getElem?_take] at h1
  have hlt : i * K.n + j < l.length * K.n := by
   have : (i + 1) * K.n ≤ l.length * K.n := Nat.mul_le_mul_right _ hi;rw [Nat.succ_mul] at this; omega
  rw [if_pos hlt] at h1;rw [show 0 + i * K.n + j = i * K.n + j by omega];exact cell_of_block' hh _ (by rw [← Array.getElem?_toList]; exact h1)
end
end Go.Proofs.Ytpnaegohjbaggaa
namespace Go.Proofs.Ytpnaegohjbaggaa
open Go.RowKit
theorem append_ros {w : World} {L M : List Ro} {a b : Option Addr} {c d : Nat} (hL : RosP L w (.slice a L.length c)) (hM : RosP M w (.slice b M.length d)) (hl : L.length + M.length ≤ 1000) (ty : TypeId) :
  ∃ (a6 : Option Addr) (c6 : Nat) (w6 : World) (a7 : Option Addr) (c7 : Nat) (w7 : World), (Builtin.append_ #[40, 40] ty #[.slice none 0 0, .slice a L.length c]).run Try.prog w = .ok (.slice a6 L.length c6) w6 ∧
   (Builtin.append_ #[40, 40] ty #[.slice a6 L.length c6, .slice b M.length d]).run Try.prog w6 = .ok (.slice a7 (L ++ M).length c7) w7 ∧ RosP (L ++ M) w7 (.slice a7 (L ++ M).length c7) ∧ Below w.heap.size w w7 := by
 obtain ⟨v6, w6, hrun6, hown6, hgr6, -⟩ := own_manyH (K := kdRo) (S := fun b => b < w.heap.size) (S1 := fun b => b < w.heap.size) (L := []) (m := L) (lv := .slice none 0 0) (w := w) (base := w.heap.size) (OwnK.nil _ _ _) hL (fun k hk => ⟨hk, by simp [Value.ownBlock]⟩) (Nat.le_refl _) (by simp; omega) ty;have hb6 : Below w.heap.size w w6 := ⟨hgr6.os, hgr6.tape, hgr6.output, hgr6.size, fun k hk => hgr6.block k hk (by simp [Value.ownBlock])⟩;rw [List.nil_append] at hown6;obtain ⟨a6, c6, rfl⟩ := OwnK.form hown6;have h6 : SlG (fun b => b < w.heap.size) w6 kdRo.n kdRo.bytes (kdRo.R (fun b => b < w.heap.size) w6) M (.slice b M.length d) := SlG.on (fun _ h => h) (fun k hk => hb6.block k hk) (fun _ _ _ h => kdRo.on (fun _ h => h) (fun k hk => hb6.block k hk) h) hM;obtain ⟨v7, w7, hrun7, hown7, hgr7, -⟩ := own_manyH (K := kdRo) (S := fun b => b < w.heap.size) (S1 := fun b => b < w.heap.size) (L := L) (m := M) (base := w.heap.size) hown6 h6 (fun k hk => ⟨Nat.lt_of_lt_of_le hk hb6.size, fun e => by have := (OwnK.lies hown6 k e).1; omega⟩) hb6.size (by omega) ty;obtain ⟨a7, c7, rfl⟩ := OwnK.form hown7;refine ⟨a6, c6, w6, a7, c7, w7, hrun6, hrun7, ?_, ?_⟩
 ·exact RosP.of (OwnK.slgS hown7 (by show (L ++ M).length * 48 ≤ _; rw [List.length_append]; omega)) (fun k hk => by rcases hk with hk | hk; exact Nat.lt_of_lt_of_le hk (Nat.le_trans hb6.size hgr7.size); exact hk.2)
 ·exact ⟨hgr7.os.trans hb6.os, hgr7.tape.trans hb6.tape, hgr7.output.trans hb6.output, Nat.le_trans hb6.size hgr7.size, fun k hk => (hgr7.block k (Nat.lt_of_lt_of_le hk hb6.size) (fun e => by have := (OwnK.lies hown6 k e.symm).1; omega)).trans (hb6.block k hk)⟩
theorem merge_merge {l m q : List Ro} (h : MergeIs l m) (k : MergeIs m q) : MergeIs l q where
 rise := k.rise
 there := fun r hr => h.there r (k.there r hr)
 best := fun x hx => by
  obtain ⟨r, hr, e, s⟩ := h.best x hx;obtain ⟨p, hp, e2, s2⟩ := k.best r hr;exact ⟨p, hp, by have := (ord_cmpRo p r x).eqv e2; omega, by omega⟩
def cntN (n : Nat) (l : List Ro) : Nat := (l.map fun g => (argR n g).num.toNat).sum
def hasN (n : Nat) (l : List Ro) : Nat := (l.filter fun r => decide (n < r.args.length)).length
theorem cntN_snoc (n : Nat) (l : List Ro) {i : Nat} (h : i < l.length) : cntN n (l.take (i + 1)) = cntN n (l.take i) + (argR n l[i]).num.toNat := by
 unfold cntN; rw [List.take_succ_eq_append_getElem h, List.map_append, List.sum_append]; simp
theorem cntN_le (n : Nat) (l : List Ro) (i : Nat) : cntN n (l.take i) ≤ cntN n l := by
 conv => rhs; rw [← List.take_append_drop i l]
 unfold cntN; rw [List.map_append, List.sum_append]; omega
theorem hasN_yes (n : Nat) (l : List Ro) {i : Nat} (h : i < l.length) (hn : n < l[i].args.length) : hasN n (l.take (i + 1)) = hasN n (l.take i) + 1 := by
 unfold hasN; rw [List.take_succ_eq_append_getElem h, List.filter_append, List.length_append]; simp [hn]
theorem hasN_no (n : Nat) (l : List Ro) {i : Nat} (h : i < l.length) (hn : ¬ n < l[i].args.length) : hasN n (l.take (i + 1)) = hasN n (l.take i) := by
 unfold hasN; rw [List.take_succ_eq_append_getElem h, List.filter_append, List.length_append]; simp [hn]
theorem hasN_le (n : Nat) (l : List Ro) (i : Nat) : hasN n (l.take i) ≤ i := by
 unfold hasN;exact Nat.le_trans (List.length_filter_le _ _) (by rw [List.length_take]; omega)
theorem merge_len {l R : List Ro} (h : MergeIs l R) : R.length ≤ l.length := few_of R l (h.rise.imp fun {a b} hab e => by rw [e] at hab; exact cmpRo_irr b hab) h.there
theorem group_cnt {n : Nat} {l G : List Ro} (h : GroupIs sCount n l G) : (∀ g ∈ G, n < g.args.length ∧ ∃ c : Nat, 1 ≤ c ∧ argR n g = numN (c : Int)) ∧ ∃ R, MergeIs l R ∧ cntN n G = hasN n R := by
 obtain ⟨R, C, hR, hC, hsum, hp⟩ := group_count sCount_l h
 have hat : ∀ g ∈ G, n < g.args.length ∧ ∃ c : Nat, 1 ≤ c ∧ argR n g = numN (c : Int) := fun g hg => by
  have hm : g.args[n]? ∈ G.map fun g => g.args[n]? := List.mem_map.2 ⟨g, hg, rfl⟩
  obtain ⟨c, hc, e⟩ := List.mem_map.1 (hp.mem_iff.1 hm);obtain ⟨hn, e2⟩ := List.getElem?_eq_some_iff.1 e.symm;exact ⟨hn, c, hC c hc, by rw [argR_at hn]; exact e2⟩
 refine ⟨hat, R, hR, ?_⟩;rw [hasN, ← hsum]
 have e1 : G.map (fun g => (argR n g).num.toNat) = (G.map fun g => g.args[n]?).map (fun o => (o.getD (.mk 0 0 ⟨#[]⟩ [])).num.toNat) := by
  rw [List.map_map];exact List.map_congr_left fun g hg => by simp [argR, List.getD_eq_getElem?_getD]
 have e2 : C = (C.map fun (c : Nat) => some (numN (c : Int))).map (fun o => (o.getD (.mk 0 0 ⟨#[]⟩ [])).num.toNat) := by
  rw [List.map_map]
  conv => lhs; rw [← List.map_id C]
  exact List.map_congr_left fun c hc => (by show c = (Int.toNat (c : Int)); simp)
 rw [cntN, e1]
 conv => rhs; rw [e2]
 exact (hp.map _).sum_nat
theorem counts_all {n : Nat} {l m R G : List Ro} (hl : ∀ x ∈ l, rightRo x) (hm : ∀ x ∈ m, rightRo x) (h1 : ∀ x ∈ l, x ∈ m) (h2 : ∀ x ∈ m, x ∈ l) (hR : MergeIs l R) (h : GroupIs sCount n m G) : cntN n G = hasN n R := by
 obtain ⟨-, Q, hQ, e⟩ := group_cnt h;rw [e, merge_one hl hm hR hQ h1 h2]
theorem counts_one {s : ByteArray} {n : Nat} {l m R G H : List Ro} (hs : AggName s) (hl : ∀ x ∈ l, rightRo x) (hm : ∀ x ∈ m, rightRo x) (h1 : ∀ x ∈ l, x ∈ m) (h2 : ∀ x ∈ m, x ∈ l) (hR : MergeIs l R) (h : GroupIs s n m G) (k : GroupIs s n R H) : G = H :=
 group_one hs hm (fun x hx => hl x (hR.there x hx)) h k fun _A _B a b => merge_one hm hl a (merge_merge hR b) h2 h1
end Go.Proofs.Ytpnaegohjbaggaa
namespace Go.Proofs.Ytpnaegohjbaggaa
open Go.RowKit
open Classical in
noncomputable def ofName (N : ByteArray) (l : List Ro) : List Ro := l.filter fun r => decide (r.name = N)
theorem ofName_mem {N : ByteArray} {l : List Ro} {r : Ro} : r ∈ ofName N l ↔ r ∈ l ∧ r.name = N := by simp [ofName]
theorem ofName_right {N : ByteArray} {l : List Ro} (h : ∀ x ∈ l, rightRo x) : ∀ x ∈ ofName N l, rightRo x := fun x hx => h x (ofName_mem.1 hx).1
theorem cmpRo_name {a b : Ro} (h : cmpRo a b = 0) : a.name = b.name := by
 unfold cmpRo at h
 by_cases h1 : cmpS a.name b.name = 0
 ·exact cmpS_zero h1
 ·rw [if_pos h1] at h; exact absurd h h1
theorem merge_name {N : ByteArray} {l R : List Ro} (h : MergeIs l R) : MergeIs (ofName N l) (ofName N R) where
 rise := h.rise.sublist List.filter_sublist
 there := fun r hr => ofName_mem.2 ⟨h.there r (ofName_mem.1 hr).1, (ofName_mem.1 hr).2⟩
 best := fun x hx => by
  obtain ⟨r, hr, hc, hs⟩ := h.best x (ofName_mem.1 hx).1;exact ⟨r, ofName_mem.2 ⟨hr, (cmpRo_name hc).trans (ofName_mem.1 hx).2⟩, hc, hs⟩
theorem made_name {s : ByteArray} {n : Nat} {R : List Ro} {g : Ro} {x : Cel} {L : List Cel} (h : MadeOf s n R g x L) : MadeOf s n (ofName g.name R) g x L where
 row := h.row
 of := fun y hy => by
  obtain ⟨h1, h2, h3⟩ := h.of y hy;exact ⟨ofName_mem.2 ⟨h1, h3.1.symm⟩, h2, h3⟩
 all := fun r hr ha => h.all r (ofName_mem.1 hr).1 ha
 one := h.one
theorem group_name {s : ByteArray} {n : Nat} {N : ByteArray} {l G H : List Ro} (hs : AggName s) (hl : ∀ x ∈ l, rightRo x) (h : GroupIs s n l G) (k : GroupIs s n (ofName N l) H) : ofName N G = H := by
 obtain ⟨R, hR, hall⟩ := group_made h;obtain ⟨Q, hQ, hall2⟩ := group_made k;have hm := ofName_right (N := N) hl;obtain rfl : ofName N R = Q := merge_one hm hm (merge_name hR) hQ (fun _ h => h) (fun _ h => h);have hr : ∀ r ∈ ofName N R, rightRo r := fun r hr => hm r (hQ.there r hr)
 refine rise_eq (lt := fun a b => cmpRo a b < 0) cmpRo_irr (fun _ _ h => cmpRo_asym h) _ _ ((group_rise h).sublist List.filter_sublist) (group_rise k) (fun g hg => ?_) (fun g hg => ?_)
 ·obtain ⟨hgG, hgn⟩ := ofName_mem.1 hg
  obtain ⟨hn, x, L, hx⟩ := hall g hgG;have hx2 := made_name hx;rw [hgn] at hx2;obtain ⟨h1, h2, h3⟩ := hx2.of x (List.mem_cons_self ..);obtain ⟨g', hg', ha'⟩ := group_there hm k x.1 (hQ.there _ h1) h2;obtain ⟨hn', x', L', hx'⟩ := hall2 g' hg';rw [made_one hs hr hx2 hx' hn (alike_trans h3 (alike_symm ha'))];exact hg'
 ·obtain ⟨hn, x, L, hx⟩ := hall2 g hg
  obtain ⟨h1, h2, h3⟩ := hx.of x (List.mem_cons_self ..);have hgn : g.name = N := h3.1.trans (ofName_mem.1 h1).2;obtain ⟨g', hg', ha'⟩ := group_there hl h x.1 (hR.there _ (ofName_mem.1 h1).1) h2;obtain ⟨hn', x', L', hx'⟩ := hall g' hg';have hx2 := made_name hx';have hag := alike_trans h3 (alike_symm ha');rw [← hag.1, hgn] at hx2;rw [made_one hs hr hx hx2 hn hag];exact ofName_mem.2 ⟨hg', by rw [← hag.1, hgn]⟩
end Go.Proofs.Ytpnaegohjbaggaa
namespace Go.Proofs.Ytpnaegohjbaggaa
open Go.RowKit
theorem cmpRo_alike {k : Int} {a b : Ro} (h : cmpRo a b = 0) : AlikeP k a b := by
 have hn := cmpRo_name h;unfold cmpRo at h;rw [if_neg (by rw [hn]; simpa using cmpS_self0 b.name)] at h;obtain ⟨h1, h2⟩ := (cmpL_eq0 _ _).1 h;exact ⟨hn, h1, fun i p q _ => h2 i p q⟩
theorem once_set {s : ByteArray} {n : Nat} {m R : List Ro} (hu : ∀ a ∈ m, ∀ b ∈ m, AlikeP (n : Int) a b → a = b) (hR : MergeIs m R) {g : Ro} {x : Cel} {L : List Cel} (h : MadeOf s n R g x L) : L = [] := by
 cases L with
 | nil => rfl
 | cons y L =>
  exfalso
  obtain ⟨h1, -, h3⟩ := h.of x (List.mem_cons_self ..);obtain ⟨k1, -, k3⟩ := h.of y (List.mem_cons_of_mem _ (List.mem_cons_self ..));have e := hu _ (hR.there _ h1) _ (hR.there _ k1) (alike_trans (alike_symm h3) k3);have := h.one;rw [List.map_cons, List.nodup_cons] at this;exact this.1 (by rw [e]; simp)
theorem group_once {s : ByteArray} {n : Nat} {m G : List Ro} (hs : AggName s) (hu : ∀ a ∈ m, ∀ b ∈ m, AlikeP (n : Int) a b → a = b) (hn : ∀ a ∈ m, n < a.args.length) (hr : ∀ a ∈ m, rightRo a) (h : GroupIs s n m G) :
  (s.toList = [99, 111, 117, 110, 116] → ∀ g ∈ G, g.args[n]? = some (numN 1)) ∧ (s.toList ≠ [99, 111, 117, 110, 116] → MergeIs m G) := by
 obtain ⟨R, hR, hall⟩ := group_made h;refine ⟨fun hc g hg => ?_, fun hc => ?_⟩
 ·obtain ⟨hgn, x, L, hx⟩ := hall g hg
  obtain rfl := once_set hu hR hx;rw [List.getElem?_eq_getElem hgn, made_at hx hgn, aggV_count hc]; rfl
 ·have hone : ∀ g ∈ G, g ∈ R := fun g hg => by
   obtain ⟨hgn, x, L, hx⟩ := hall g hg;obtain rfl := once_set hu hR hx;obtain ⟨h1, h2, -⟩ := hx.of x (List.mem_cons_self ..)
   have hv : aggV s n x [] = argN n x := by
    rcases aggV_or hs n x [] with ⟨-, e⟩ | ⟨-, e⟩ | ⟨e, -⟩
    ·rw [e]; rfl
    ·rw [e]; rfl
    ·exact absurd e hc
   have e : g = x.1 := by
    rw [hx.row, newCel, hv, argN_at h2];simp [longZ]
   rw [e]; exact h1
  have hback : ∀ r ∈ R, r ∈ G := fun r hr' => by
   have hrm := hR.there r hr';obtain ⟨g, hg, ha⟩ := group_there hr h r hrm (hn r hrm);rw [← hu g (hR.there g (hone g hg)) r hrm ha]; exact hg
  rw [rise_eq (lt := fun a b => cmpRo a b < 0) cmpRo_irr (fun _ _ h => cmpRo_asym h) G R (group_rise h) hR.rise hone hback];exact hR
theorem once_len {s : ByteArray} {n : Nat} {m G : List Ro} (hu : ∀ a ∈ m, ∀ b ∈ m, AlikeP (n : Int) a b → a = b) (hd : m.Nodup) (hn : ∀ a ∈ m, n < a.args.length) (hs : s.toList = [99, 111, 117, 110, 116]) (h : GroupIs s n m G) : G.length = m.length := by
 obtain ⟨R, hR, hall⟩ := group_made h
 have hin : ∀ x ∈ m, x ∈ R := fun x hx => by
  obtain ⟨r, hr', hc, -⟩ := hR.best x hx;rw [← hu r (hR.there r hr') x hx (cmpRo_alike hc)]; exact hr'
 have h1 := few_of m R hd hin;have h2 := few_of R m (hR.rise.imp fun {a b} hab e => by rw [e] at hab; exact cmpRo_irr b hab) hR.there;obtain ⟨R', C, hR', -, hsum, hperm⟩ := group_count hs h
 have hin' : ∀ x ∈ m, x ∈ R' := fun x hx => by
  obtain ⟨r, hr', hc, -⟩ := hR'.best x hx;rw [← hu r (hR'.there r hr') x hx (cmpRo_alike hc)]; exact hr'
 have h3 := few_of m R' hd hin';have h4 := few_of R' m (hR'.rise.imp fun {a b} hab e => by rw [e] at hab; exact cmpRo_irr b hab) hR'.there;have hf : (R'.filter fun r => decide (n < r.args.length)) = R' := List.filter_eq_self.2 fun r hr' => decide_eq_true (hn r (hR'.there r hr'))
 have hl : G.length = C.length := by simpa using hperm.length_eq
 have hC : ∀ c ∈ C, c = 1 := fun c hc => by
  have : some (numN (c : Int)) ∈ C.map fun (c : Nat) => some (numN (c : Int)) := List.mem_map.2 ⟨c, hc, rfl⟩
  obtain ⟨g, hg, e⟩ := List.mem_map.1 (hperm.mem_iff.2 this);obtain ⟨hgn, x, L, hx⟩ := hall g hg;obtain rfl := once_set hu hR hx;rw [List.getElem?_eq_getElem hgn, made_at hx hgn, aggV_count hs] at e
  injection e with e
  injection e with _ e2 _ _
  simp only [List.length_nil] at e2
  omega
 have hsumC : C.sum = C.length := by
  clear hperm hl hsum
  induction C with
  | nil => rfl
  | cons c C ih => rw [List.sum_cons, List.length_cons, ih fun c h => hC c (List.mem_cons_of_mem _ h), hC c (List.mem_cons_self ..)]; omega
 rw [hf] at hsum;omega
end Go.Proofs.Ytpnaegohjbaggaa
namespace Go.Proofs.Ytpnaegohjbaggaa
open Go.RowKit
theorem put_row {S : Nat → Prop} {w : World} {B : Nat} {M : List Ro} {mv : Value} {x : Ro} {a : Option Addr} {c : Nat} (h : MineS kdRo S w B M mv) (hB : B ≤ w.heap.size) (hSB : ∀ k, S k → k < B) (hl : M.length ≤ 1000)
  (hx : RepRo S w x (.string x.name) (.slice a x.args.length c) (.int .i64 x.stamp)) (ty : TypeId) :
  ∃ (a6 : Option Addr) (cap : Nat) (w6 : World), (Builtin.append_ #[40, 40] ty #[mv, .slice (some ⟨w.heap.size, 0, none⟩) 1 1]).run Try.prog (w.alloc (.cells #[.string x.name, .slice a x.args.length c, .int .i64 x.stamp] 47)) = .ok (.slice a6 (M.length + 1) cap) w6 ∧
   MineS kdRo S w6 B (M ++ [x]) (.slice a6 (M.length + 1) cap) ∧ Below B w w6 := by
 have d0 := below_alloc w (.cells #[.string x.name, .slice a x.args.length c, .int .i64 x.stamp] 47);have h0 := h.on d0;have hli := h0.lies
 obtain ⟨a6, cap, w6, hrun, hm, hg⟩ := MineS.append (y := x) (c := at3x (.string x.name) (.slice a x.args.length c) (.int .i64 x.stamp)) h0 (Nat.le_trans hB d0.size) hl (alloc_new' w _)
  (fun j hj => (show _ from match j, (show j < 3 from hj) with | 0, _ => rfl | 1, _ => rfl | 2, _ => rfl))
  (show RepRo _ _ x _ _ _ from RepRo.on (fun k hk => ⟨.inl hk, Nat.lt_of_lt_of_le (Nat.lt_of_lt_of_le (hSB k hk) hB) d0.size, fun e => by have := (hli k e).1; have := hSB k hk; omega⟩) (fun k hk => d0.block k (Nat.lt_of_lt_of_le (hSB k hk) hB)) hx) ty
 exact ⟨a6, cap, w6, hrun, hm, ⟨hg.os.trans d0.os, hg.tape.trans d0.tape, hg.output.trans d0.output, Nat.le_trans d0.size hg.size, fun k hk => (hg.block k (by have := d0.size; omega) (fun e => by have := (hli k e.symm).1; omega)).trans (d0.block k (by omega))⟩⟩
theorem MineS.ros {S : Nat → Prop} {w : World} {B : Nat} {l : List Ro} {v : Value} (h : MineS kdRo S w B l v) (hl : l.length ≤ 100000) : RosP l w v := RosP.of (MineS.slg h hl) (fun _ hk => hk.2)
noncomputable def inB (n : Nat) (m : List Ro) (x : Ro) : Bool := decide (x.args.length ≤ n) || m.any fun y => alikeB (n : Int) y x
noncomputable def onceL (n : Nat) (l : List Ro) : List Ro := l.foldl (fun m x => if inB n m x then m else m ++ [x]) []
theorem onceL_nil (n : Nat) : onceL n [] = [] := rfl
theorem onceL_snoc (n : Nat) (l : List Ro) {i : Nat} (h : i < l.length) : onceL n (l.take (i + 1)) = if inB n (onceL n (l.take i)) l[i] then onceL n (l.take i) else onceL n (l.take i) ++ [l[i]] := by
 unfold onceL; rw [List.take_succ_eq_append_getElem h, List.foldl_append, List.foldl_cons, List.foldl_nil]
structure OnceI (n : Nat) (L m : List Ro) : Prop where
 one : ∀ a ∈ m, ∀ b ∈ m, AlikeP (n : Int) a b → a = b
 dup : m.Nodup
 far : ∀ a ∈ m, n < a.args.length
 of : ∀ a ∈ m, a ∈ L
theorem OnceI.step {n : Nat} {L m : List Ro} {x : Ro} (h : OnceI n L m) (hx : x ∈ L) : OnceI n L (if inB n m x then m else m ++ [x]) := by
 by_cases hc : inB n m x = true
 ·rw [if_pos hc]; exact h
 ·rw [if_neg hc]
  have hc' : ¬ (x.args.length ≤ n) ∧ ∀ y ∈ m, ¬ AlikeP (n : Int) y x := by
   unfold inB at hc;rw [Bool.or_eq_true, List.any_eq_true] at hc;exact ⟨fun h => hc (.inl (decide_eq_true h)), fun y hy ha => hc (.inr ⟨y, hy, alikeB_yes ha⟩)⟩
  obtain ⟨c1, c2⟩ := hc';refine ⟨fun a ha b hb e => ?_, ?_, fun a ha => ?_, fun a ha => ?_⟩
  ·rcases List.mem_append.1 ha with ha | ha <;> rcases List.mem_append.1 hb with hb | hb
   ·exact h.one a ha b hb e
   ·rw [List.mem_singleton.1 hb] at e; exact absurd e (c2 a ha)
   ·rw [List.mem_singleton.1 ha] at e; exact absurd (alike_symm e) (c2 b hb)
   ·rw [List.mem_singleton.1 ha, List.mem_singleton.1 hb]
  ·refine List.nodup_append.2 ⟨h.dup, List.pairwise_singleton _ _, fun a ha b hb e => ?_⟩
   rw [List.mem_singleton.1 hb] at e;exact c2 a ha (by rw [e]; exact alike_refl _ _)
  ·rcases List.mem_append.1 ha with ha | ha
   ·exact h.far a ha
   ·rw [List.mem_singleton.1 ha]; omega
  ·rcases List.mem_append.1 ha with ha | ha
   ·exact h.of a ha
   ·rw [List.mem_singleton.1 ha]; exact hx
theorem onceL_is (n : Nat) (L : List Ro) : OnceI n L (onceL n L) := by
 have h : ∀ (l m : List Ro), (∀ x ∈ l, x ∈ L) → OnceI n L m → OnceI n L (l.foldl (fun m x => if inB n m x then m else m ++ [x]) m) := by
  intro l
  induction l with
  | nil => intro m _ h; exact h
  | cons x l ih =>
   intro m hl h;rw [List.foldl_cons];exact ih _ (fun y hy => hl y (List.mem_cons_of_mem _ hy)) (h.step (hl x (List.mem_cons_self ..)))
 exact h L [] (fun _ h => h) ⟨fun a ha => by simp at ha, List.nodup_nil, fun a ha => by simp at ha, fun a ha => by simp at ha⟩
theorem onceL_len (n : Nat) (L : List Ro) : (onceL n L).length ≤ L.length := few_of _ L (onceL_is n L).dup (onceL_is n L).of
theorem once_one {n : Nat} {L G : List Ro} (hr : ∀ x ∈ L, rightRo x) (h : GroupIs sCount n (onceL n L) G) : (∀ g ∈ G, n < g.args.length ∧ argR n g = numN 1) ∧ G.length = (onceL n L).length := by
 have hi := onceL_is n L;obtain ⟨h1, -⟩ := group_once agg_count hi.one hi.far (fun a ha => hr a (hi.of a ha)) h;refine ⟨fun g hg => ?_, once_len hi.one hi.dup hi.far sCount_l h⟩;have h2 := h1 sCount_l g hg;obtain ⟨hn, e⟩ := List.getElem?_eq_some_iff.1 h2;exact ⟨hn, by rw [argR_at hn]; exact e⟩
theorem sMin_c : sMin.toList ≠ [99, 111, 117, 110, 116] := by rw [sMin_l]; decide
theorem sMax_c : sMax.toList ≠ [99, 111, 117, 110, 116] := by rw [sMax_l]; decide
theorem once_same {s : ByteArray} {n : Nat} {L G R : List Ro} (hs : AggName s) (hc : s.toList ≠ [99, 111, 117, 110, 116]) (hr : ∀ x ∈ L, rightRo x) (h : GroupIs s n (onceL n L) G) (hR : MergeIs (onceL n L) R) : G = R := by
 have hi := onceL_is n L;have hm : ∀ a ∈ onceL n L, rightRo a := fun a ha => hr a (hi.of a ha)
 exact merge_one hm hm ((group_once hs hi.one hi.far hm h).2 hc) hR (fun _ h => h) (fun _ h => h)
theorem group_nil {s : ByteArray} {n : Nat} {G : List Ro} (h : GroupIs s n [] G) : G = [] := by
 obtain ⟨R, hR, hall⟩ := group_made h
 cases G with
 | nil => rfl
 | cons g G =>
  obtain ⟨-, x, L, hm⟩ := hall g (List.mem_cons_self ..);have := hR.there _ (hm.of x (List.mem_cons_self ..)).1;simp at this
theorem group_turn {s : ByteArray} {n k : Nat} {L G H : List Ro} (hs : AggName s) (hr : ∀ x ∈ L, rightRo x) (h : GroupIs s n L G) (g : GroupIs s n (L.drop k ++ L.take k) H) : G = H := by
 have h1 : ∀ x ∈ L, x ∈ L.drop k ++ L.take k := fun x hx => by
  rw [← List.take_append_drop k L, List.mem_append] at hx;exact List.mem_append.2 hx.symm
 have h2 : ∀ x ∈ L.drop k ++ L.take k, x ∈ L := fun x hx => by
  rcases List.mem_append.1 hx with hx | hx
  ·exact List.mem_of_mem_drop hx
  ·exact List.mem_of_mem_take hx
 exact group_one hs hr (fun x hx => hr x (h2 x hx)) h g fun _A _B a b => merge_one hr (fun x hx => hr x (h2 x hx)) a b h1 h2
theorem ofName_yes (N : ByteArray) (l : List Ro) {i : Nat} (h : i < l.length) (e : l[i].name = N) : ofName N (l.take (i + 1)) = ofName N (l.take i) ++ [l[i]] := by
 unfold ofName; rw [List.take_succ_eq_append_getElem h, List.filter_append]; simp [e]
theorem ofName_no (N : ByteArray) (l : List Ro) {i : Nat} (h : i < l.length) (e : l[i].name ≠ N) : ofName N (l.take (i + 1)) = ofName N (l.take i) := by
 unfold ofName; rw [List.take_succ_eq_append_getElem h, List.filter_append]; simp [e]
theorem ofName_len (N : ByteArray) (l : List Ro) : (ofName N l).length ≤ l.length := List.length_filter_le _ _
end Go.Proofs.Ytpnaegohjbaggaa
namespace Go.Proofs.Ytpnaegohjbaggaa
open Go.RowKit
def OwnP (w0 : World) (l : List Ro) (w : World) (v : Value) : Prop := ∃ a c, v = .slice a l.length c ∧ OwnK kdRo (fun b => b < w0.heap.size) w w0.heap.size l (.slice a l.length c)
theorem OwnP.on {w0 : World} {l : List Ro} {w w' : World} {v : Value} (h : OwnP w0 l w v) (hw0 : w0.heap.size ≤ w.heap.size) (hb : Below w.heap.size w w') : OwnP w0 l w' v := by
 obtain ⟨a, c, e, h⟩ := h;exact ⟨a, c, e, OwnK.on h (fun _ hk => hk) (fun k hk => hb.block k (Nat.lt_of_lt_of_le hk hw0)) (fun k _ hk _ => hb.block k hk)⟩
theorem app_one {w0 w : World} {l : List Ro} {v : Value} (hg : Below w0.heap.size w0 w) (h : SlG (fun b => b < w0.heap.size) w kdRo.n kdRo.bytes (kdRo.R (fun b => b < w0.heap.size) w) l v) (hl : l.length ≤ 1000) (ty : TypeId) :
  ∃ v6 w6, (Builtin.append_ #[40, 40] ty #[.slice none 0 0, v]).run Try.prog w = .ok v6 w6 ∧ OwnP w0 l w6 v6 ∧ Below w.heap.size w w6 := by
 obtain ⟨v6, w6, hrun, hown, hgr, -⟩ := own_manyH (K := kdRo) (S := fun b => b < w0.heap.size) (S1 := fun b => b < w0.heap.size) (L := []) (m := l) (lv := .slice none 0 0) (w := w) (base := w0.heap.size) (OwnK.nil _ _ _) h (fun k hk => ⟨Nat.lt_of_lt_of_le hk hg.size, by simp [Value.ownBlock]⟩) hg.size (by simp; omega) ty;rw [List.nil_append] at hown;obtain ⟨a6, c6, rfl⟩ := OwnK.form hown;exact ⟨_, w6, hrun, ⟨a6, c6, rfl, hown⟩, ⟨hgr.os, hgr.tape, hgr.output, hgr.size, fun k hk => hgr.block k hk (by simp [Value.ownBlock])⟩⟩
theorem app_more {w0 w : World} {l m : List Ro} {u v : Value} (hg : Below w0.heap.size w0 w) (hu : OwnP w0 l w u) (h : SlG (fun b => b < w0.heap.size) w kdRo.n kdRo.bytes (kdRo.R (fun b => b < w0.heap.size) w) m v) (hl : l.length + m.length ≤ 1000) (ty : TypeId) :
  ∃ a c w7, (Builtin.append_ #[40, 40] ty #[u, v]).run Try.prog w = .ok (.slice a (l ++ m).length c) w7 ∧ RosP (l ++ m) w7 (.slice a (l ++ m).length c) ∧ Below w0.heap.size w0 w7 := by
 obtain ⟨a, c, rfl, hu⟩ := hu;obtain ⟨v7, w7, hrun, hown, hgr, -⟩ := own_manyH (K := kdRo) (S := fun b => b < w0.heap.size) (S1 := fun b => b < w0.heap.size) (m := m) (base := w0.heap.size) hu h (fun k hk => ⟨Nat.lt_of_lt_of_le hk hg.size, fun e => by have := (OwnK.lies hu k e).1; omega⟩) hg.size (by omega) ty;obtain ⟨a7, c7, rfl⟩ := OwnK.form hown;refine ⟨a7, c7, w7, hrun, RosP.of (OwnK.slgS hown (by show (l ++ m).length * 48 ≤ _; rw [List.length_append]; omega)) (fun k hk => ?_), ⟨hgr.os.trans hg.os, hgr.tape.trans hg.tape, hgr.output.trans hg.output, Nat.le_trans hg.size hgr.size, fun k hk => (hgr.block k (Nat.lt_of_lt_of_le hk hg.size) (fun e => by have := (OwnK.lies hu k e.symm).1; omega)).trans (hg.block k hk)⟩⟩;rcases hk with hk | hk
 ·exact Nat.lt_of_lt_of_le hk (Nat.le_trans hg.size hgr.size)
 ·exact hk.2
end Go.Proofs.Ytpnaegohjbaggaa
namespace Go.Proofs.Ytpnaegohjbaggaa.groupTurns
open Go.RowKit
set_option maxRecDepth 100000 in
set_option maxHeartbeats 8000000 in
theorem walk (facts : List Rw) (turn agg : Int) (W : World) (va : Value) (gf : RepRws (fun k => k < W.heap.size) W facts va) (htu : I64 turn) (hag : I64 agg) :
  Calls Try.prog 8 #[va, .int .i64 turn, .int .i64 agg] W fun e W' => e = .returned (.bool true) ∧ Below W.heap.size W W' := by
 obtain ⟨qa, qc, rfl⟩ := SlG.form gf;have GF := Lib.hid gf;have HTU := Lib.hid htu;have HAG := Lib.hid hag;clear gf htu hag;go_enter Try.func8, Try.ntmps8
 go_wp2_with fail
 refine (awake11_any W).mono ?_;rintro e w1 ⟨rfl, hb⟩;have B := Lib.hid hb;clear hb;go_wp2_with fail
 refine (rows_any facts (fun k => k < W.heap.size) w1 _ (fun k hk => Nat.lt_of_lt_of_le hk B.out.size) (SlG.on (fun _ h => h) (fun k hk => B.out.block k hk) (fun _ _ _ h => h) GF.out)).mono ?_;rintro e w2 ⟨hb, lv, rfl, hm⟩;have HR := Lib.hid (right_rowsZ facts);have HST := Lib.hid (stamp_rowsZ facts);have HL40 := Lib.hid (len_rowsZ facts);have hros : RosP (rowsZ facts) w2 lv := RosP.of (MineS.slg hm (by have := HL40.out; omega)) (fun k hk => hk.2);replace B := Lib.hid (Below.step B.out hb);clear hm hb GF;generalize rowsZ facts = L at *;obtain ⟨la, lc, rfl⟩ := SlG.form hros;have HL := Lib.hid hros;have hL63 : L.length ≤ 40 := HL40.out;clear hros;go_wp2_with fail
 refine (aggs11_any w2).mono ?_;rintro e w3 ⟨sv, rfl, ⟨sb, rfl, hs3⟩, hb⟩;obtain ⟨j, hj, hj3⟩ := pick_nat agg 3 (by omega);have HJ : Hid (pickZ agg ((3 : Nat) : Int) = (j : Int)) := hj;replace HL : Hid (RosP L w3 (.slice la L.length lc)) := HL.out.on hb;replace B := Lib.hid (Below.step B.out hb);have j1 : (0 : Int) ≤ (j : Int) := Int.natCast_nonneg _;have j2 : (j : Int) < 3 := by omega
 have j3 := str3_cell hs3 hj3;clear hj hb hs3 hj3;go_wp2_with fail
 refine (pick11_any agg 3 w3 HAG.out (by omega) (by omega)).mono ?_;rintro e w4 ⟨rfl, rfl⟩;rw [show pickZ agg 3 = (j : Int) from HJ.out];clear HJ HAG;have HAN := Lib.hid (aggN_good j)
 by_cases hl0 : L.length = 0
 ·obtain rfl := List.length_eq_zero_iff.1 hl0
  have k1 : ((0 : Int) == 0) = true := by decide
  clear hl0;go_wp2_with fail
  refine (group_any (aggN j) 1 [] (fun k => k < w3.heap.size) w3 _ (by unfold I64; omega) (fun _ h => h) HL.out).mono ?_;rintro e w4 ⟨hb, G, v, rfl, -, hgi, hv⟩;obtain rfl := group_nil (hgi HAN.out (by omega));obtain ⟨ga, gc, rfl⟩ := SlG.form hv;have HF := Lib.hid (Below.step B.out hb);clear hb hgi hv;go_wp2_with fail
  go_ret
  exact ⟨rfl, HF.out⟩
 ·have k1 : ((L.length : Int) == 0) = false := beq_eq_false_iff_ne.2 (by omega)
  have k2 : (L.length == 0) = false := beq_eq_false_iff_ne.2 hl0;obtain ⟨k, hk, hkl⟩ := pick_nat turn L.length (by omega);have HKP := Lib.hid hk;clear hk;go_wp2_with fail
  generalize aggN j = s at *;clear k1 k2 j1 j2 j3;refine (pick11_any turn (L.length : Int) w3 HTU.out (by omega) (by omega)).mono ?_;rintro e w5 ⟨rfl, rfl⟩;rw [HKP.out];obtain ⟨n7, hn7⟩ : ∃ n, (L.drop k ++ L.take k).length = n := ⟨_, rfl⟩;have HN7 := Lib.hid hn7;clear hn7 hl0;generalize w3 = w5 at *;obtain ⟨lb, lo, lf, lcc, hel, -, l0, -, -, -, -⟩ := RosP.at HL.out (Below.refl _ _) k hkl;subst hel;have HDR : Hid (SlG (fun b => b < w5.heap.size) w5 kdRo.n kdRo.bytes (kdRo.R (fun b => b < w5.heap.size) w5) (L.drop k) (.slice (some ⟨lb, lo + k * 3, none⟩) (L.length - k) (lc - k))) := SlG.behind (k := k) HL.out (by omega) (by omega); have HTR := Lib.hid (SlG.front (k := k) HL.out (by omega))
  have HDL : Hid ((L.drop k).length ≤ 1000) := by show _ ≤ _; rw [List.length_drop]; omega
  have HTL : Hid ((L.drop k).length + (L.take k).length ≤ 1000) := by show _ ≤ _; rw [List.length_drop, List.length_take]; omega
  have hlc : L.length ≤ lc := by
   obtain ⟨a', b', o', cap, e, h6, -⟩ := HL.out
   injection e with e1 e2 e3
   omega
  have HKL : Hid ((k : Int) < (L.length : Int)) := by show _ < _; omega
  have c1 : (0 : Int) ≤ (k : Int) := Int.natCast_nonneg _;have c2 : (k : Int) < (L.length : Int) := HKL.out;have c3 : ¬ lc = k := by omega
  have c4 : (k : Int) ≤ (lc : Int) := by omega
  have c5 : ¬ (lc : Int) = (k : Int) := by omega
  have c6 : k ≤ L.length := by omega
  have c7 : (k : Int) ≤ (L.length : Int) := by omega
  have c8 : k ≤ lc := by omega
  obtain ⟨N, hN⟩ : ∃ N, L[k].name = N := ⟨_, rfl⟩;rw [hN] at l0;have Y0 := Lib.hid l0;have HKN := Lib.hid hkl;clear l0 hN hkl;go_upto_region 7 with fail
  refine wp_region_factsP (by rfl) 114 (by rfl) (by kernel_rfl) 7 (fun q => q == 0 || q == 1 || q == 2 || q == 3 || q == 4 || q == 5 || q == 6) (by kernel_rfl) (FB [.e (.slice (some ⟨lb, lo, none⟩) L.length lc), .e (.int .i64 (k : Int)), .e (.slice (some ⟨lb, lo + k * 3, none⟩) (L.length - k) (lc - k)), .p (fun wz vz => OwnP w5 (L.drop k) wz vz), .e (.slice (some ⟨lb, lo, none⟩) L.length lc), .e (.int .i64 (k : Int)), .e (.slice (some ⟨lb, lo, none⟩) k lc), .t (fun wz vz => ∃ a c, vz = .slice a n7 c ∧ RosP (L.drop k ++ L.take k) wz (.slice a n7 c))]) (fun ph w' => if ph = true then Below w5.heap.size w5 w' else Below w5.heap.size w5 w') (Below.drew (Below.refl _ _)) ⟨?n0, ?n1, ?n2, ?n3, ?n4, ?n5, ?n6, ?n7, trivial⟩ (by rfl) ?nlast
  case n0 =>
   intro a w' hoff hg hdep K hK;replace hg : Below w5.heap.size w5 w' := hg;have h8 := off_at hoff 8 (v := .slice (some ⟨lb, lo, none⟩) L.length lc) (by kernel_rfl) rfl;rw [if_pos (by rfl)];go_simp;exact hK.out _ _ hg rfl (fun _ _ h => h)
  case n1 =>
   intro a w' hoff hg hdep K hK;replace hg : Below w5.heap.size w5 w' := hg;have h10 := off_at hoff 10 (v := .int .i64 (k : Int)) (by kernel_rfl) rfl;rw [if_pos (by rfl)];go_simp;exact hK.out _ _ hg rfl (fun _ _ h => h)
  case n2 =>
   intro a w' hoff hg hdep K hK;replace hg : Below w5.heap.size w5 w' := hg;obtain ⟨_, e0, rfl⟩ := hdep 0 _ 40 (by kernel_rfl) rfl rfl;obtain ⟨_, e1, rfl⟩ := hdep 1 _ 41 (by kernel_rfl) rfl rfl;rw [if_pos (by rfl)];go_simp;exact hK.out _ _ hg rfl (fun _ _ h => h)
  case n3 =>
   intro a w' hoff hg hdep K hK;replace hg : Below w5.heap.size w5 w' := hg;obtain ⟨_, e2, rfl⟩ := hdep 2 _ 42 (by kernel_rfl) rfl rfl;obtain ⟨v6, w6, hrun, hp, hb⟩ := app_one (l := L.drop k) hg (SlG.on (fun _ h => h) (fun j hj => hg.block j hj) (fun _ _ _ h => kdRo.on (fun _ h => h) (fun j hj => hg.block j hj) h) HDR.out) HDL.out 40;refine step_append_by rfl (.const (.slice none 0 0)) (.tmp 42) 40 rfl (by simp [Act.eval]) (by simp [Act.eval, e2]) hrun ?_;exact hK.out _ _ (hg.trans (hb.mono hg.size)) (fun _ => hp) (fStP ⟨fun _ h => OwnP.on h hg.size hb, trivial⟩)
  case n4 =>
   intro a w' hoff hg hdep K hK;replace hg : Below w5.heap.size w5 w' := hg;have h8 := off_at hoff 8 (v := .slice (some ⟨lb, lo, none⟩) L.length lc) (by kernel_rfl) rfl;rw [if_pos (by rfl)];go_simp;exact hK.out _ _ hg rfl (fun _ _ h => h)
  case n5 =>
   intro a w' hoff hg hdep K hK;replace hg : Below w5.heap.size w5 w' := hg;have h10 := off_at hoff 10 (v := .int .i64 (k : Int)) (by kernel_rfl) rfl;rw [if_pos (by rfl)];go_simp;exact hK.out _ _ hg rfl (fun _ _ h => h)
  case n6 =>
   intro a w' hoff hg hdep K hK;replace hg : Below w5.heap.size w5 w' := hg;obtain ⟨_, e4, rfl⟩ := hdep 4 _ 44 (by kernel_rfl) rfl rfl;obtain ⟨_, e5, rfl⟩ := hdep 5 _ 45 (by kernel_rfl) rfl rfl;rw [if_pos (by rfl)];go_simp;exact hK.out _ _ hg rfl (fun _ _ h => h)
  case n7 =>
   intro a w' hoff hg hdep K hK;replace hg : Below w5.heap.size w5 w' := hg;obtain ⟨v3, e3, f3⟩ := hdep 3 _ 43 (by kernel_rfl) rfl rfl;have g3 : OwnP w5 (L.drop k) w' v3 := f3 rfl;clear f3;obtain ⟨_, e6, rfl⟩ := hdep 6 _ 46 (by kernel_rfl) rfl rfl;obtain ⟨a, c, w7, hrun, hp, hb⟩ := app_more (l := L.drop k) (m := L.take k) hg g3 (SlG.on (fun _ h => h) (fun j hj => hg.block j hj) (fun _ _ _ h => kdRo.on (fun _ h => h) (fun j hj => hg.block j hj) h) HTR.out) HTL.out 40;rw [HN7.out] at hrun hp;refine step_append_by rfl (.tmp 43) (.tmp 46) 40 rfl (by simp [Act.eval, e3]) (by simp [Act.eval, e6]) hrun ?_;exact hK.out _ _ hb (fun _ => ⟨_, _, rfl, hp⟩) (fPass rfl)
  case nlast =>
   intro a w' hoff hg hf;replace hg : Below w5.heap.size w5 w' := hg;obtain ⟨_, e0, rfl⟩ := hf 0 _ 40 (by decide) rfl rfl;obtain ⟨_, e1, rfl⟩ := hf 1 _ 41 (by decide) rfl rfl;obtain ⟨_, e2, rfl⟩ := hf 2 _ 42 (by decide) rfl rfl;obtain ⟨v3, e3, -⟩ := hf 3 _ 43 (by decide) rfl rfl;obtain ⟨_, e4, rfl⟩ := hf 4 _ 44 (by decide) rfl rfl;obtain ⟨_, e5, rfl⟩ := hf 5 _ 45 (by decide) rfl rfl;obtain ⟨_, e6, rfl⟩ := hf 6 _ 46 (by decide) rfl rfl;obtain ⟨v7, e7, f7⟩ := hf 7 _ 47 (by decide) rfl rfl;have g7 : ∃ a c, v7 = .slice a n7 c ∧ RosP (L.drop k ++ L.take k) w' (.slice a n7 c) := f7 rfl;clear f7;obtain ⟨ma, mc, rfl, hm7⟩ := g7;rw [if_pos (by rfl)];rw [hoff.sets [(40, .slice (some ⟨lb, lo, none⟩) L.length lc), (41, .int .i64 (k : Int)), (42, .slice (some ⟨lb, lo + k * 3, none⟩) (L.length - k) (lc - k)), (43, v3), (44, .slice (some ⟨lb, lo, none⟩) L.length lc), (45, .int .i64 (k : Int)), (46, .slice (some ⟨lb, lo, none⟩) k lc), (47, .slice ma n7 mc)] (by kernel_rfl) (by intro p hp; simp only [List.mem_cons, List.not_mem_nil, or_false] at hp; rcases hp with rfl | rfl | rfl | rfl | rfl | rfl | rfl | rfl <;> assumption)];clear hoff hf e0 e1 e2 e3 e4 e5 e6 e7;simp only [List.foldl_cons, List.foldl_nil, List.setIfInBounds_toArray, List.set_cons_zero, List.set_cons_succ]
   go_simp;have HM7 := Lib.hid hm7;have HB7 := Lib.hid hg;clear hg hm7;generalize w' = w6 at *;clear c1 c2 c3 c4 c5 c6 c7 c8 hlc HDR HTR HDL HTL HN7 HKP;replace HL : Hid (RosP L w6 (.slice (some ⟨lb, lo, none⟩) L.length lc)) := HL.out.on HB7.out;replace Y0 := Lib.hid ((HB7.out.cell (cell_lt Y0.out)).trans Y0.out);replace B := Lib.hid (Below.step B.out HB7.out);clear HB7;go_wp2_with fail
   go_loopw [12, 13] (fun ov iv wr => ∃ q : Nat, q ≤ L.length ∧ iv = .int .i64 (q : Int) ∧ Hid (MineS kdRo (fun k => k < w6.heap.size) wr w6.heap.size (ofName N (L.take q)) ov) ∧ Hid (Below w6.heap.size w6 wr)) (fun _ iv _ => L.length - (intOf iv).toNat)
   case atStart => exact ⟨0, Nat.zero_le _, rfl, (by show MineS _ _ _ _ _ _; rw [List.take_zero]; exact MineS.nil _ _), Below.refl _ _⟩
   case round =>
    obtain ⟨q, hq, rfl, hm, hbq⟩ := hrel;have hml : (ofName N (L.take q)).length ≤ 80 := Nat.le_trans (ofName_len N _) (by rw [List.length_take]; omega)
    by_cases hlq : q < L.length
    ·have HY := Lib.hid (fun h => ofName_yes N L hlq h); have HN := Lib.hid (fun h => ofName_no N L hlq h)
     obtain ⟨xb, xo, xf, xc, hex, hSx, x0, x1, x2, hx, -⟩ := RosP.at HL.out hbq.out q hlq;have he2 := Option.some.inj hex
     injection he2 with e1 e2 e3
     subst e1 e2;clear hex e3;have y0 := (hbq.out.cell (cell_lt Y0.out)).trans Y0.out;have k1 : decide ((q : Int) < (L.length : Int)) = true := decide_eq_true (by omega);have k2 : decide (q < L.length) = true := decide_eq_true (by omega);have k3 : (0 : Int) ≤ (q : Int) := Int.natCast_nonneg _;have k4 : (q : Int) < (L.length : Int) := by omega
     have HX := Lib.hid hx;clear hx hSx hq;generalize hxx : L[q] = x at *;have HLQ := Lib.hid hlq;clear hxx hlq;obtain ⟨M, hM⟩ : ∃ M, ofName N (L.take q) = M := ⟨_, rfl⟩;rw [hM] at hm hml HY HN;clear hM;obtain ⟨na, nc, rfl⟩ := MineS.form hm.out;have c1 : (0 : Int) ≤ (k : Int) := Int.natCast_nonneg _;have c2 : (k : Int) < (L.length : Int) := HKL.out;go_upto_region 12 with fail
     by_cases he : x.name = N
     ·have HEQ := Lib.hid he
      have e1 : (x.name.toList == N.toList) = true := by rw [he]; simp
      clear he;refine wp_region_factsG (by rfl) 114 (by rfl) (by kernel_rfl) (FA [.e (.slice (some ⟨lb, lo, none⟩) L.length lc), .e (.int .i64 (q : Int)), .e (.pointer (some ⟨lb, lo + q * 3, none⟩)), .e (.pointer (some ⟨lb, lo + q * 3, none⟩)), .e (.string x.name), .e (.slice (some ⟨lb, lo, none⟩) L.length lc), .e (.int .i64 (k : Int)), .e (.pointer (some ⟨lb, lo + k * 3, none⟩)), .e (.pointer (some ⟨lb, lo + k * 3, none⟩)), .e (.string N), .e (.bool true)]) (fun w' => Below wr.heap.size wr w') (Below.drew (Below.refl _ _)) ⟨?aa0, ?aa1, ?aa2, ?aa3, ?aa4, ?aa5, ?aa6, ?aa7, ?aa8, ?aa9, ?aa10, trivial⟩ ?aafin
      case aa0 =>
       intro a w' hoff hg hdep K hK;have h8 := off_at hoff 8 (v := .slice (some ⟨lb, lo, none⟩) L.length lc) (by kernel_rfl) rfl;rw [if_pos (by rfl)];go_simp;exact hK.out _ _ hg rfl (fun _ _ h => h)
      case aa1 =>
       intro a w' hoff hg hdep K hK;have h13 := off_at hoff 13 (v := .int .i64 (q : Int)) (by kernel_rfl) rfl;rw [if_pos (by rfl)];go_simp;exact hK.out _ _ hg rfl (fun _ _ h => h)
      case aa2 =>
       intro a w' hoff hg hdep K hK;obtain ⟨_, e0, rfl⟩ := hdep 0 _ 54 (by kernel_rfl) rfl rfl;obtain ⟨_, e1, rfl⟩ := hdep 1 _ 55 (by kernel_rfl) rfl rfl;rw [if_pos (by rfl)];go_simp;exact hK.out _ _ hg rfl (fun _ _ h => h)
      case aa3 =>
       intro a w' hoff hg hdep K hK;obtain ⟨_, e2, rfl⟩ := hdep 2 _ 56 (by kernel_rfl) rfl rfl;rw [if_pos (by rfl)];go_simp;exact hK.out _ _ hg rfl (fun _ _ h => h)
      case aa4 =>
       intro a w' hoff hg hdep K hK;obtain ⟨_, e3, rfl⟩ := hdep 3 _ 57 (by kernel_rfl) rfl rfl;rw [if_pos (by rfl)];have q0 := (hg.cell (cell_lt x0)).trans x0;go_simp;exact hK.out _ _ hg rfl (fun _ _ h => h)
      case aa5 =>
       intro a w' hoff hg hdep K hK;have h8 := off_at hoff 8 (v := .slice (some ⟨lb, lo, none⟩) L.length lc) (by kernel_rfl) rfl;rw [if_pos (by rfl)];go_simp;exact hK.out _ _ hg rfl (fun _ _ h => h)
      case aa6 =>
       intro a w' hoff hg hdep K hK;have h10 := off_at hoff 10 (v := .int .i64 (k : Int)) (by kernel_rfl) rfl;rw [if_pos (by rfl)];go_simp;exact hK.out _ _ hg rfl (fun _ _ h => h)
      case aa7 =>
       intro a w' hoff hg hdep K hK;obtain ⟨_, e5, rfl⟩ := hdep 5 _ 59 (by kernel_rfl) rfl rfl;obtain ⟨_, e6, rfl⟩ := hdep 6 _ 60 (by kernel_rfl) rfl rfl;rw [if_pos (by rfl)];go_simp;exact hK.out _ _ hg rfl (fun _ _ h => h)
      case aa8 =>
       intro a w' hoff hg hdep K hK;obtain ⟨_, e7, rfl⟩ := hdep 7 _ 61 (by kernel_rfl) rfl rfl;rw [if_pos (by rfl)];go_simp;exact hK.out _ _ hg rfl (fun _ _ h => h)
      case aa9 =>
       intro a w' hoff hg hdep K hK;obtain ⟨_, e8, rfl⟩ := hdep 8 _ 62 (by kernel_rfl) rfl rfl;rw [if_pos (by rfl)];have q0 := (hg.cell (cell_lt y0)).trans y0;go_simp;exact hK.out _ _ hg rfl (fun _ _ h => h)
      case aa10 =>
       intro a w' hoff hg hdep K hK;obtain ⟨_, e4, rfl⟩ := hdep 4 _ 58 (by kernel_rfl) rfl rfl;obtain ⟨_, e9, rfl⟩ := hdep 9 _ 63 (by kernel_rfl) rfl rfl;rw [if_pos (by rfl)];go_simp;exact hK.out _ _ hg rfl (fun _ _ h => h)
      case aafin =>
       intro a w' hoff hg hf;obtain ⟨_, e0, rfl⟩ := hf 0 _ 54 rfl rfl;obtain ⟨_, e1, rfl⟩ := hf 1 _ 55 rfl rfl;obtain ⟨_, e2, rfl⟩ := hf 2 _ 56 rfl rfl;obtain ⟨_, e3, rfl⟩ := hf 3 _ 57 rfl rfl;obtain ⟨_, e4, rfl⟩ := hf 4 _ 58 rfl rfl;obtain ⟨_, e5, rfl⟩ := hf 5 _ 59 rfl rfl;obtain ⟨_, e6, rfl⟩ := hf 6 _ 60 rfl rfl;obtain ⟨_, e7, rfl⟩ := hf 7 _ 61 rfl rfl;obtain ⟨_, e8, rfl⟩ := hf 8 _ 62 rfl rfl;obtain ⟨_, e9, rfl⟩ := hf 9 _ 63 rfl rfl;obtain ⟨_, e10, rfl⟩ := hf 10 _ 64 rfl rfl;rw [hoff.sets [(54, .slice (some ⟨lb, lo, none⟩) L.length lc), (55, .int .i64 (q : Int)), (56, .pointer (some ⟨lb, lo + q * 3, none⟩)), (57, .pointer (some ⟨lb, lo + q * 3, none⟩)), (58, .string x.name), (59, .slice (some ⟨lb, lo, none⟩) L.length lc), (60, .int .i64 (k : Int)), (61, .pointer (some ⟨lb, lo + k * 3, none⟩)), (62, .pointer (some ⟨lb, lo + k * 3, none⟩)), (63, .string N), (64, .bool true)] (by kernel_rfl) (by intro p hp; simp only [List.mem_cons, List.not_mem_nil, or_false] at hp; rcases hp with rfl | rfl | rfl | rfl | rfl | rfl | rfl | rfl | rfl | rfl | rfl <;> assumption)];clear hoff hf e0 e1 e2 e3 e4 e5 e6 e7 e8 e9 e10;simp only [List.foldl_cons, List.foldl_nil, List.setIfInBounds_toArray, List.set_cons_zero, List.set_cons_succ]
       have HBN := Lib.hid (hbq.out.trans (hg.mono hbq.out.size));have HMN := Lib.hid (MineS.on hm.out hg);have hx' := RepRo.on (S' := fun k => k < w6.heap.size) (fun _ h => h) (fun j hj => hg.block j (Nat.lt_of_lt_of_le hj hbq.out.size)) HX.out;have x0' := (hg.cell (cell_lt x0)).trans x0; have x1' := (hg.cell (cell_lt x1)).trans x1; have x2' := (hg.cell (cell_lt x2)).trans x2
       obtain ⟨a6, c6, wy, hrun, hm8, hb8⟩ := put_row HMN.out HBN.out.size (fun j hj => hj) (by omega) hx' 40;have HRUN := Lib.hid hrun; have HM8 := Lib.hid hm8
       have HB8 : Hid (Below w6.heap.size w6 wy) := HBN.out.trans hb8;clear hg hx' hrun hm8 hb8 x0 x1 x2 y0 hm hbq HX HMN HBN;go_wp2_with (at_builtin; refine wpList_append_by rfl _ _ _ rfl rfl rfl HRUN.out ?_; clear HRUN)
       go_roundw
       case rel => exact ⟨q + 1, HLQ.out, by go_num, (by show MineS _ _ _ _ _ _; rw [HY.out HEQ.out]; exact HM8.out), HB8⟩
       case measure => have := HLQ.out; simp [intOf]; omega
     ·have HEQ : Hid (x.name ≠ N) := he
      have e1 : (x.name.toList == N.toList) = false := beq_eq_false_iff_ne.2 fun e => he (by rw [Lib.toList_data, Lib.toList_data] at e; cases hx : x.name; cases hy : N; rw [hx, hy] at e; exact congrArg ByteArray.mk (Array.toList_inj.1 e))
      clear he;refine wp_region_factsG (by rfl) 114 (by rfl) (by kernel_rfl) (FA [.e (.slice (some ⟨lb, lo, none⟩) L.length lc), .e (.int .i64 (q : Int)), .e (.pointer (some ⟨lb, lo + q * 3, none⟩)), .e (.pointer (some ⟨lb, lo + q * 3, none⟩)), .e (.string x.name), .e (.slice (some ⟨lb, lo, none⟩) L.length lc), .e (.int .i64 (k : Int)), .e (.pointer (some ⟨lb, lo + k * 3, none⟩)), .e (.pointer (some ⟨lb, lo + k * 3, none⟩)), .e (.string N), .e (.bool false)]) (fun w' => Below wr.heap.size wr w') (Below.drew (Below.refl _ _)) ⟨?ab0, ?ab1, ?ab2, ?ab3, ?ab4, ?ab5, ?ab6, ?ab7, ?ab8, ?ab9, ?ab10, trivial⟩ ?abfin
      case ab0 =>
       intro a w' hoff hg hdep K hK;have h8 := off_at hoff 8 (v := .slice (some ⟨lb, lo, none⟩) L.length lc) (by kernel_rfl) rfl;rw [if_pos (by rfl)];go_simp;exact hK.out _ _ hg rfl (fun _ _ h => h)
      case ab1 =>
       intro a w' hoff hg hdep K hK;have h13 := off_at hoff 13 (v := .int .i64 (q : Int)) (by kernel_rfl) rfl;rw [if_pos (by rfl)];go_simp;exact hK.out _ _ hg rfl (fun _ _ h => h)
      case ab2 =>
       intro a w' hoff hg hdep K hK;obtain ⟨_, e0, rfl⟩ := hdep 0 _ 54 (by kernel_rfl) rfl rfl;obtain ⟨_, e1, rfl⟩ := hdep 1 _ 55 (by kernel_rfl) rfl rfl;rw [if_pos (by rfl)];go_simp;exact hK.out _ _ hg rfl (fun _ _ h => h)
      case ab3 =>
       intro a w' hoff hg hdep K hK;obtain ⟨_, e2, rfl⟩ := hdep 2 _ 56 (by kernel_rfl) rfl rfl;rw [if_pos (by rfl)];go_simp;exact hK.out _ _ hg rfl (fun _ _ h => h)
      case ab4 =>
       intro a w' hoff hg hdep K hK;obtain ⟨_, e3, rfl⟩ := hdep 3 _ 57 (by kernel_rfl) rfl rfl;rw [if_pos (by rfl)];have q0 := (hg.cell (cell_lt x0)).trans x0;go_simp;exact hK.out _ _ hg rfl (fun _ _ h => h)
      case ab5 =>
       intro a w' hoff hg hdep K hK;have h8 := off_at hoff 8 (v := .slice (some ⟨lb, lo, none⟩) L.length lc) (by kernel_rfl) rfl;rw [if_pos (by rfl)];go_simp;exact hK.out _ _ hg rfl (fun _ _ h => h)
      case ab6 =>
       intro a w' hoff hg hdep K hK;have h10 := off_at hoff 10 (v := .int .i64 (k : Int)) (by kernel_rfl) rfl;rw [if_pos (by rfl)];go_simp;exact hK.out _ _ hg rfl (fun _ _ h => h)
      case ab7 =>
       intro a w' hoff hg hdep K hK;obtain ⟨_, e5, rfl⟩ := hdep 5 _ 59 (by kernel_rfl) rfl rfl;obtain ⟨_, e6, rfl⟩ := hdep 6 _ 60 (by kernel_rfl) rfl rfl;rw [if_pos (by rfl)];go_simp;exact hK.out _ _ hg rfl (fun _ _ h => h)
      case ab8 =>
       intro a w' hoff hg hdep K hK;obtain ⟨_, e7, rfl⟩ := hdep 7 _ 61 (by kernel_rfl) rfl rfl;rw [if_pos (by rfl)];go_simp;exact hK.out _ _ hg rfl (fun _ _ h => h)
      case ab9 =>
       intro a w' hoff hg hdep K hK;obtain ⟨_, e8, rfl⟩ := hdep 8 _ 62 (by kernel_rfl) rfl rfl;rw [if_pos (by rfl)];have q0 := (hg.cell (cell_lt y0)).trans y0;go_simp;exact hK.out _ _ hg rfl (fun _ _ h => h)
      case ab10 =>
       intro a w' hoff hg hdep K hK;obtain ⟨_, e4, rfl⟩ := hdep 4 _ 58 (by kernel_rfl) rfl rfl;obtain ⟨_, e9, rfl⟩ := hdep 9 _ 63 (by kernel_rfl) rfl rfl;rw [if_pos (by rfl)];go_simp;exact hK.out _ _ hg rfl (fun _ _ h => h)
      case abfin =>
       intro a w' hoff hg hf;obtain ⟨_, e0, rfl⟩ := hf 0 _ 54 rfl rfl;obtain ⟨_, e1, rfl⟩ := hf 1 _ 55 rfl rfl;obtain ⟨_, e2, rfl⟩ := hf 2 _ 56 rfl rfl;obtain ⟨_, e3, rfl⟩ := hf 3 _ 57 rfl rfl;obtain ⟨_, e4, rfl⟩ := hf 4 _ 58 rfl rfl;obtain ⟨_, e5, rfl⟩ := hf 5 _ 59 rfl rfl;obtain ⟨_, e6, rfl⟩ := hf 6 _ 60 rfl rfl;obtain ⟨_, e7, rfl⟩ := hf 7 _ 61 rfl rfl;obtain ⟨_, e8, rfl⟩ := hf 8 _ 62 rfl rfl;obtain ⟨_, e9, rfl⟩ := hf 9 _ 63 rfl rfl;obtain ⟨_, e10, rfl⟩ := hf 10 _ 64 rfl rfl;rw [hoff.sets [(54, .slice (some ⟨lb, lo, none⟩) L.length lc), (55, .int .i64 (q : Int)), (56, .pointer (some ⟨lb, lo + q * 3, none⟩)), (57, .pointer (some ⟨lb, lo + q * 3, none⟩)), (58, .string x.name), (59, .slice (some ⟨lb, lo, none⟩) L.length lc), (60, .int .i64 (k : Int)), (61, .pointer (some ⟨lb, lo + k * 3, none⟩)), (62, .pointer (some ⟨lb, lo + k * 3, none⟩)), (63, .string N), (64, .bool false)] (by kernel_rfl) (by intro p hp; simp only [List.mem_cons, List.not_mem_nil, or_false] at hp; rcases hp with rfl | rfl | rfl | rfl | rfl | rfl | rfl | rfl | rfl | rfl | rfl <;> assumption)];clear hoff hf e0 e1 e2 e3 e4 e5 e6 e7 e8 e9 e10;simp only [List.foldl_cons, List.foldl_nil, List.setIfInBounds_toArray, List.set_cons_zero, List.set_cons_succ]
       have HBN := Lib.hid (hbq.out.trans (hg.mono hbq.out.size));have HMN := Lib.hid (MineS.on hm.out hg);clear hg x0 x1 x2 y0 hm hbq HX;go_wp2_with fail
       go_roundw
       case rel => exact ⟨q + 1, HLQ.out, by go_num, (by show MineS _ _ _ _ _ _; rw [HN.out HEQ.out]; exact HMN.out), HBN⟩
       case measure => have := HLQ.out; simp [intOf]; omega
    ·have hql : q = L.length := by omega
     have HE : Hid (ofName N (L.take q) = ofName N L) := by show _ = _; rw [hql, List.take_length]
     rw [HE.out] at hm hml;have k1 : decide ((q : Int) < (L.length : Int)) = false := decide_eq_false (by omega);have k2 : decide (q < L.length) = false := decide_eq_false (by omega);obtain ⟨oa, oc, rfl⟩ := MineS.form hm.out;have HON : Hid (RosP (ofName N L) wr (.slice oa (ofName N L).length oc)) := MineS.ros hm.out (by omega);replace HL : Hid (RosP L wr (.slice (some ⟨lb, lo, none⟩) L.length lc)) := HL.out.on hbq.out;replace HM7 : Hid (RosP (L.drop k ++ L.take k) wr (.slice ma n7 mc)) := HM7.out.on hbq.out;replace Y0 := Lib.hid ((hbq.out.cell (cell_lt Y0.out)).trans Y0.out);replace B := Lib.hid (Below.step B.out hbq.out);clear hq hlq hql HE hm hml hbq;generalize wr = w7 at *;go_wp2_with fail
     refine (group_any s 1 L (fun k => k < w7.heap.size) w7 _ (by unfold I64; omega) (fun _ h => h) HL.out).mono ?_;rintro e w8 ⟨hb, G, v, rfl, -, hgi, hv⟩;have hgi : GroupIs s 1 L G := hgi HAN.out (by omega);have HGI : Hid (GroupIs s 1 L G) := hgi;have hros : RosP G w8 v := RosP.of hv (fun k hk => hk.2);obtain ⟨ga, gc, rfl⟩ := SlG.form hros;have HG := Lib.hid hros
     have hG63 : G.length ≤ 40 := by
      obtain ⟨R, MM, blk, segs, hR, hp, -, hsg, hG, -⟩ := hgi;have h1 := merge_len hR;have h2 := hp.length_eq;rw [List.length_map] at h2;have h3 := List.length_filter_le (fun r : Ro => decide (1 < r.args.length)) R;have h4 := hG.length_eq;rw [List.length_map] at h4;have h5 := Segs.len hsg;omega
     replace HON : Hid (RosP (ofName N L) w8 (.slice oa (ofName N L).length oc)) := HON.out.on hb;replace HM7 : Hid (RosP (L.drop k ++ L.take k) w8 (.slice ma n7 mc)) := HM7.out.on hb;replace Y0 := Lib.hid ((hb.cell (cell_lt Y0.out)).trans Y0.out);replace B := Lib.hid (Below.step B.out hb);clear hb hgi hv hros HL;go_wp2_with fail
     go_loopw [15, 16] (fun ov iv wr => ∃ q : Nat, q ≤ G.length ∧ iv = .int .i64 (q : Int) ∧ Hid (MineS kdRo (fun k => k < w8.heap.size) wr w8.heap.size (ofName N (G.take q)) ov) ∧ Hid (Below w8.heap.size w8 wr)) (fun _ iv _ => G.length - (intOf iv).toNat)
     case atStart => exact ⟨0, Nat.zero_le _, rfl, (by show MineS _ _ _ _ _ _; rw [List.take_zero]; exact MineS.nil _ _), Below.refl _ _⟩
     case round =>
      obtain ⟨q, hq, rfl, hm, hbq⟩ := hrel;have hml : (ofName N (G.take q)).length ≤ 80 := Nat.le_trans (ofName_len N _) (by rw [List.length_take]; omega)
      by_cases hlq : q < G.length
      ·have HY := Lib.hid (fun h => ofName_yes N G hlq h); have HN := Lib.hid (fun h => ofName_no N G hlq h)
       obtain ⟨xb, xo, xf, xc, hex, hSx, x0, x1, x2, hx, -⟩ := RosP.at HG.out hbq.out q hlq;subst hex;have y0 := (hbq.out.cell (cell_lt Y0.out)).trans Y0.out;have k1 : decide ((q : Int) < (G.length : Int)) = true := decide_eq_true (by omega);have k2 : decide (q < G.length) = true := decide_eq_true (by omega);have k3 : (0 : Int) ≤ (q : Int) := Int.natCast_nonneg _;have k4 : (q : Int) < (G.length : Int) := by omega
       have HX := Lib.hid hx;clear hx hSx hq;generalize hxx : G[q] = x at *;have HLQ := Lib.hid hlq;clear hxx hlq;obtain ⟨M, hM⟩ : ∃ M, ofName N (G.take q) = M := ⟨_, rfl⟩;rw [hM] at hm hml HY HN;clear hM;obtain ⟨na, nc, rfl⟩ := MineS.form hm.out;have c1 : (0 : Int) ≤ (k : Int) := Int.natCast_nonneg _;have c2 : (k : Int) < (L.length : Int) := HKL.out;go_upto_region 19 with fail
       by_cases he : x.name = N
       ·have HEQ := Lib.hid he
        have e1 : (x.name.toList == N.toList) = true := by rw [he]; simp
        clear he;refine wp_region_factsG (by rfl) 114 (by rfl) (by kernel_rfl) (FA [.e (.slice (some ⟨xb, xo, none⟩) G.length gc), .e (.int .i64 (q : Int)), .e (.pointer (some ⟨xb, xo + q * 3, none⟩)), .e (.pointer (some ⟨xb, xo + q * 3, none⟩)), .e (.string x.name), .e (.slice (some ⟨lb, lo, none⟩) L.length lc), .e (.int .i64 (k : Int)), .e (.pointer (some ⟨lb, lo + k * 3, none⟩)), .e (.pointer (some ⟨lb, lo + k * 3, none⟩)), .e (.string N), .e (.bool true)]) (fun w' => Below wr.heap.size wr w') (Below.drew (Below.refl _ _)) ⟨?ba0, ?ba1, ?ba2, ?ba3, ?ba4, ?ba5, ?ba6, ?ba7, ?ba8, ?ba9, ?ba10, trivial⟩ ?bafin
        case ba0 =>
         intro a w' hoff hg hdep K hK;have h14 := off_at hoff 14 (v := .slice (some ⟨xb, xo, none⟩) G.length gc) (by kernel_rfl) rfl;rw [if_pos (by rfl)];go_simp;exact hK.out _ _ hg rfl (fun _ _ h => h)
        case ba1 =>
         intro a w' hoff hg hdep K hK;have h16 := off_at hoff 16 (v := .int .i64 (q : Int)) (by kernel_rfl) rfl;rw [if_pos (by rfl)];go_simp;exact hK.out _ _ hg rfl (fun _ _ h => h)
        case ba2 =>
         intro a w' hoff hg hdep K hK;obtain ⟨_, e0, rfl⟩ := hdep 0 _ 81 (by kernel_rfl) rfl rfl;obtain ⟨_, e1, rfl⟩ := hdep 1 _ 82 (by kernel_rfl) rfl rfl;rw [if_pos (by rfl)];go_simp;exact hK.out _ _ hg rfl (fun _ _ h => h)
        case ba3 =>
         intro a w' hoff hg hdep K hK;obtain ⟨_, e2, rfl⟩ := hdep 2 _ 83 (by kernel_rfl) rfl rfl;rw [if_pos (by rfl)];go_simp;exact hK.out _ _ hg rfl (fun _ _ h => h)
        case ba4 =>
         intro a w' hoff hg hdep K hK;obtain ⟨_, e3, rfl⟩ := hdep 3 _ 84 (by kernel_rfl) rfl rfl;rw [if_pos (by rfl)];have q0 := (hg.cell (cell_lt x0)).trans x0;go_simp;exact hK.out _ _ hg rfl (fun _ _ h => h)
        case ba5 =>
         intro a w' hoff hg hdep K hK;have h8 := off_at hoff 8 (v := .slice (some ⟨lb, lo, none⟩) L.length lc) (by kernel_rfl) rfl;rw [if_pos (by rfl)];go_simp;exact hK.out _ _ hg rfl (fun _ _ h => h)
        case ba6 =>
         intro a w' hoff hg hdep K hK;have h10 := off_at hoff 10 (v := .int .i64 (k : Int)) (by kernel_rfl) rfl;rw [if_pos (by rfl)];go_simp;exact hK.out _ _ hg rfl (fun _ _ h => h)
        case ba7 =>
         intro a w' hoff hg hdep K hK;obtain ⟨_, e5, rfl⟩ := hdep 5 _ 86 (by kernel_rfl) rfl rfl;obtain ⟨_, e6, rfl⟩ := hdep 6 _ 87 (by kernel_rfl) rfl rfl;rw [if_pos (by rfl)];go_simp;exact hK.out _ _ hg rfl (fun _ _ h => h)
        case ba8 =>
         intro a w' hoff hg hdep K hK;obtain ⟨_, e7, rfl⟩ := hdep 7 _ 88 (by kernel_rfl) rfl rfl;rw [if_pos (by rfl)];go_simp;exact hK.out _ _ hg rfl (fun _ _ h => h)
        case ba9 =>
         intro a w' hoff hg hdep K hK;obtain ⟨_, e8, rfl⟩ := hdep 8 _ 89 (by kernel_rfl) rfl rfl;rw [if_pos (by rfl)];have q0 := (hg.cell (cell_lt y0)).trans y0;go_simp;exact hK.out _ _ hg rfl (fun _ _ h => h)
        case ba10 =>
         intro a w' hoff hg hdep K hK;obtain ⟨_, e4, rfl⟩ := hdep 4 _ 85 (by kernel_rfl) rfl rfl;obtain ⟨_, e9, rfl⟩ := hdep 9 _ 90 (by kernel_rfl) rfl rfl;rw [if_pos (by rfl)];go_simp;exact hK.out _ _ hg rfl (fun _ _ h => h)
        case bafin =>
         intro a w' hoff hg hf;obtain ⟨_, e0, rfl⟩ := hf 0 _ 81 rfl rfl;obtain ⟨_, e1, rfl⟩ := hf 1 _ 82 rfl rfl;obtain ⟨_, e2, rfl⟩ := hf 2 _ 83 rfl rfl;obtain ⟨_, e3, rfl⟩ := hf 3 _ 84 rfl rfl;obtain ⟨_, e4, rfl⟩ := hf 4 _ 85 rfl rfl;obtain ⟨_, e5, rfl⟩ := hf 5 _ 86 rfl rfl;obtain ⟨_, e6, rfl⟩ := hf 6 _ 87 rfl rfl;obtain ⟨_, e7, rfl⟩ := hf 7 _ 88 rfl rfl;obtain ⟨_, e8, rfl⟩ := hf 8 _ 89 rfl rfl;obtain ⟨_, e9, rfl⟩ := hf 9 _ 90 rfl rfl;obtain ⟨_, e10, rfl⟩ := hf 10 _ 91 rfl rfl;rw [hoff.sets [(81, .slice (some ⟨xb, xo, none⟩) G.length gc), (82, .int .i64 (q : Int)), (83, .pointer (some ⟨xb, xo + q * 3, none⟩)), (84, .pointer (some ⟨xb, xo + q * 3, none⟩)), (85, .string x.name), (86, .slice (some ⟨lb, lo, none⟩) L.length lc), (87, .int .i64 (k : Int)), (88, .pointer (some ⟨lb, lo + k * 3, none⟩)), (89, .pointer (some ⟨lb, lo + k * 3, none⟩)), (90, .string N), (91, .bool true)] (by kernel_rfl) (by intro p hp; simp only [List.mem_cons, List.not_mem_nil, or_false] at hp; rcases hp with rfl | rfl | rfl | rfl | rfl | rfl | rfl | rfl | rfl | rfl | rfl <;> assumption)];clear hoff hf e0 e1 e2 e3 e4 e5 e6 e7 e8 e9 e10;simp only [List.foldl_cons, List.foldl_nil, List.setIfInBounds_toArray, List.set_cons_zero, List.set_cons_succ]
         have HBN := Lib.hid (hbq.out.trans (hg.mono hbq.out.size));have HMN := Lib.hid (MineS.on hm.out hg);have hx' := RepRo.on (S' := fun k => k < w8.heap.size) (fun _ h => h) (fun j hj => hg.block j (Nat.lt_of_lt_of_le hj hbq.out.size)) HX.out;have x0' := (hg.cell (cell_lt x0)).trans x0; have x1' := (hg.cell (cell_lt x1)).trans x1; have x2' := (hg.cell (cell_lt x2)).trans x2
         obtain ⟨a6, c6, wy, hrun, hm8, hb8⟩ := put_row HMN.out HBN.out.size (fun j hj => hj) (by omega) hx' 40;have HRUN := Lib.hid hrun; have HM8 := Lib.hid hm8
         have HB8 : Hid (Below w8.heap.size w8 wy) := HBN.out.trans hb8;clear hg hx' hrun hm8 hb8 x0 x1 x2 y0 hm hbq HX HMN HBN;go_wp2_with (at_builtin; refine wpList_append_by rfl _ _ _ rfl rfl rfl HRUN.out ?_; clear HRUN)
         go_roundw
         case rel => exact ⟨q + 1, HLQ.out, by go_num, (by show MineS _ _ _ _ _ _; rw [HY.out HEQ.out]; exact HM8.out), HB8⟩
         case measure => have := HLQ.out; simp [intOf]; omega
       ·have HEQ : Hid (x.name ≠ N) := he
        have e1 : (x.name.toList == N.toList) = false := beq_eq_false_iff_ne.2 fun e => he (by rw [Lib.toList_data, Lib.toList_data] at e; cases hx : x.name; cases hy : N; rw [hx, hy] at e; exact congrArg ByteArray.mk (Array.toList_inj.1 e))
        clear he;refine wp_region_factsG (by rfl) 114 (by rfl) (by kernel_rfl) (FA [.e (.slice (some ⟨xb, xo, none⟩) G.length gc), .e (.int .i64 (q : Int)), .e (.pointer (some ⟨xb, xo + q * 3, none⟩)), .e (.pointer (some ⟨xb, xo + q * 3, none⟩)), .e (.string x.name), .e (.slice (some ⟨lb, lo, none⟩) L.length lc), .e (.int .i64 (k : Int)), .e (.pointer (some ⟨lb, lo + k * 3, none⟩)), .e (.pointer (some ⟨lb, lo + k * 3, none⟩)), .e (.string N), .e (.bool false)]) (fun w' => Below wr.heap.size wr w') (Below.drew (Below.refl _ _)) ⟨?bb0, ?bb1, ?bb2, ?bb3, ?bb4, ?bb5, ?bb6, ?bb7, ?bb8, ?bb9, ?bb10, trivial⟩ ?bbfin
        case bb0 =>
         intro a w' hoff hg hdep K hK;have h14 := off_at hoff 14 (v := .slice (some ⟨xb, xo, none⟩) G.length gc) (by kernel_rfl) rfl;rw [if_pos (by rfl)];go_simp;exact hK.out _ _ hg rfl (fun _ _ h => h)
        case bb1 =>
         intro a w' hoff hg hdep K hK;have h16 := off_at hoff 16 (v := .int .i64 (q : Int)) (by kernel_rfl) rfl;rw [if_pos (by rfl)];go_simp;exact hK.out _ _ hg rfl (fun _ _ h => h)
        case bb2 =>
         intro a w' hoff hg hdep K hK;obtain ⟨_, e0, rfl⟩ := hdep 0 _ 81 (by kernel_rfl) rfl rfl;obtain ⟨_, e1, rfl⟩ := hdep 1 _ 82 (by kernel_rfl) rfl rfl;rw [if_pos (by rfl)];go_simp;exact hK.out _ _ hg rfl (fun _ _ h => h)
        case bb3 =>
         intro a w' hoff hg hdep K hK;obtain ⟨_, e2, rfl⟩ := hdep 2 _ 83 (by kernel_rfl) rfl rfl;rw [if_pos (by rfl)];go_simp;exact hK.out _ _ hg rfl (fun _ _ h => h)
        case bb4 =>
         intro a w' hoff hg hdep K hK;obtain ⟨_, e3, rfl⟩ := hdep 3 _ 84 (by kernel_rfl) rfl rfl;rw [if_pos (by rfl)];have q0 := (hg.cell (cell_lt x0)).trans x0;go_simp;exact hK.out _ _ hg rfl (fun _ _ h => h)
        case bb5 =>
         intro a w' hoff hg hdep K hK;have h8 := off_at hoff 8 (v := .slice (some ⟨lb, lo, none⟩) L.length lc) (by kernel_rfl) rfl;rw [if_pos (by rfl)];go_simp;exact hK.out _ _ hg rfl (fun _ _ h => h)
        case bb6 =>
         intro a w' hoff hg hdep K hK;have h10 := off_at hoff 10 (v := .int .i64 (k : Int)) (by kernel_rfl) rfl;rw [if_pos (by rfl)];go_simp;exact hK.out _ _ hg rfl (fun _ _ h => h)
        case bb7 =>
         intro a w' hoff hg hdep K hK;obtain ⟨_, e5, rfl⟩ := hdep 5 _ 86 (by kernel_rfl) rfl rfl;obtain ⟨_, e6, rfl⟩ := hdep 6 _ 87 (by kernel_rfl) rfl rfl;rw [if_pos (by rfl)];go_simp;exact hK.out _ _ hg rfl (fun _ _ h => h)
        case bb8 =>
         intro a w' hoff hg hdep K hK;obtain ⟨_, e7, rfl⟩ := hdep 7 _ 88 (by kernel_rfl) rfl rfl;rw [if_pos (by rfl)];go_simp;exact hK.out _ _ hg rfl (fun _ _ h => h)
        case bb9 =>
         intro a w' hoff hg hdep K hK;obtain ⟨_, e8, rfl⟩ := hdep 8 _ 89 (by kernel_rfl) rfl rfl;rw [if_pos (by rfl)];have q0 := (hg.cell (cell_lt y0)).trans y0;go_simp;exact hK.out _ _ hg rfl (fun _ _ h => h)
        case bb10 =>
         intro a w' hoff hg hdep K hK;obtain ⟨_, e4, rfl⟩ := hdep 4 _ 85 (by kernel_rfl) rfl rfl;obtain ⟨_, e9, rfl⟩ := hdep 9 _ 90 (by kernel_rfl) rfl rfl;rw [if_pos (by rfl)];go_simp;exact hK.out _ _ hg rfl (fun _ _ h => h)
        case bbfin =>
         intro a w' hoff hg hf;obtain ⟨_, e0, rfl⟩ := hf 0 _ 81 rfl rfl;obtain ⟨_, e1, rfl⟩ := hf 1 _ 82 rfl rfl;obtain ⟨_, e2, rfl⟩ := hf 2 _ 83 rfl rfl;obtain ⟨_, e3, rfl⟩ := hf 3 _ 84 rfl rfl;obtain ⟨_, e4, rfl⟩ := hf 4 _ 85 rfl rfl;obtain ⟨_, e5, rfl⟩ := hf 5 _ 86 rfl rfl;obtain ⟨_, e6, rfl⟩ := hf 6 _ 87 rfl rfl;obtain ⟨_, e7, rfl⟩ := hf 7 _ 88 rfl rfl;obtain ⟨_, e8, rfl⟩ := hf 8 _ 89 rfl rfl;obtain ⟨_, e9, rfl⟩ := hf 9 _ 90 rfl rfl;obtain ⟨_, e10, rfl⟩ := hf 10 _ 91 rfl rfl;rw [hoff.sets [(81, .slice (some ⟨xb, xo, none⟩) G.length gc), (82, .int .i64 (q : Int)), (83, .pointer (some ⟨xb, xo + q * 3, none⟩)), (84, .pointer (some ⟨xb, xo + q * 3, none⟩)), (85, .string x.name), (86, .slice (some ⟨lb, lo, none⟩) L.length lc), (87, .int .i64 (k : Int)), (88, .pointer (some ⟨lb, lo + k * 3, none⟩)), (89, .pointer (some ⟨lb, lo + k * 3, none⟩)), (90, .string N), (91, .bool false)] (by kernel_rfl) (by intro p hp; simp only [List.mem_cons, List.not_mem_nil, or_false] at hp; rcases hp with rfl | rfl | rfl | rfl | rfl | rfl | rfl | rfl | rfl | rfl | rfl <;> assumption)];clear hoff hf e0 e1 e2 e3 e4 e5 e6 e7 e8 e9 e10;simp only [List.foldl_cons, List.foldl_nil, List.setIfInBounds_toArray, List.set_cons_zero, List.set_cons_succ]
         have HBN := Lib.hid (hbq.out.trans (hg.mono hbq.out.size));have HMN := Lib.hid (MineS.on hm.out hg);clear hg x0 x1 x2 y0 hm hbq HX;go_wp2_with fail
         go_roundw
         case rel => exact ⟨q + 1, HLQ.out, by go_num, (by show MineS _ _ _ _ _ _; rw [HN.out HEQ.out]; exact HMN.out), HBN⟩
         case measure => have := HLQ.out; simp [intOf]; omega
      ·have hql : q = G.length := by omega
       have HE : Hid (ofName N (G.take q) = ofName N G) := by show _ = _; rw [hql, List.take_length]
       rw [HE.out] at hm hml;have k1 : decide ((q : Int) < (G.length : Int)) = false := decide_eq_false (by omega);have k2 : decide (q < G.length) = false := decide_eq_false (by omega);obtain ⟨pa, pc, rfl⟩ := MineS.form hm.out;have HPT : Hid (RosP (ofName N G) wr (.slice pa (ofName N G).length pc)) := MineS.ros hm.out (by omega);replace HG : Hid (RosP G wr (.slice ga G.length gc)) := HG.out.on hbq.out;replace HON : Hid (RosP (ofName N L) wr (.slice oa (ofName N L).length oc)) := HON.out.on hbq.out;replace HM7 : Hid (RosP (L.drop k ++ L.take k) wr (.slice ma n7 mc)) := HM7.out.on hbq.out;replace B := Lib.hid (Below.step B.out hbq.out);clear hq hlq hql HE hm hml hbq Y0;generalize wr = w9 at *;go_wp2_with fail
       refine (group_any s 1 (L.drop k ++ L.take k) (fun k => k < w9.heap.size) w9 _ (by unfold I64; omega) (fun _ h => h) HM7.out).mono ?_;rintro e wa ⟨hb, H, v, rfl, -, hgi, hv⟩;have hgi := hgi HAN.out (by omega);obtain rfl := group_turn HAN.out HR.out HGI.out hgi;have hros : RosP G wa v := RosP.of hv (fun k hk => hk.2);obtain ⟨ja, jc, rfl⟩ := SlG.form hros;have HG2 := Lib.hid hros;replace HG : Hid (RosP G wa (.slice ga G.length gc)) := HG.out.on hb;replace HON : Hid (RosP (ofName N L) wa (.slice oa (ofName N L).length oc)) := HON.out.on hb;replace HPT : Hid (RosP (ofName N G) wa (.slice pa (ofName N G).length pc)) := HPT.out.on hb;replace B := Lib.hid (Below.step B.out hb);clear hb hgi hv hros HM7;go_wp2_with fail
       refine (same10_any G G (fun k => k < wa.heap.size) wa _ _ (fun _ h => h) HG.out HG2.out).mono ?_;rintro e wb ⟨rfl, hb⟩;rw [(sameRos_iff _ _).2 rfl];replace HON : Hid (RosP (ofName N L) wb (.slice oa (ofName N L).length oc)) := HON.out.on hb;replace HPT : Hid (RosP (ofName N G) wb (.slice pa (ofName N G).length pc)) := HPT.out.on hb;replace B := Lib.hid (Below.step B.out hb);clear hb HG HG2;go_wp2_with fail
       refine (group_any s 1 (ofName N L) (fun k => k < wb.heap.size) wb _ (by unfold I64; omega) (fun _ h => h) HON.out).mono ?_;rintro e wc ⟨hb, H, v, rfl, -, hgi, hv⟩;have hgi := hgi HAN.out (by omega);have hgn : ofName N G = H := group_name HAN.out HR.out HGI.out hgi;have hros : RosP H wc v := RosP.of hv (fun k hk => hk.2);rw [← hgn] at hros;obtain ⟨ja, jc, rfl⟩ := SlG.form hros;have HG2 := Lib.hid hros;replace HPT : Hid (RosP (ofName N G) wc (.slice pa (ofName N G).length pc)) := HPT.out.on hb;replace B := Lib.hid (Below.step B.out hb);clear hb hgi hv hros hgn HON;go_wp2_with fail
       refine (same10_any (ofName N G) (ofName N G) (fun k => k < wc.heap.size) wc _ _ (fun _ h => h) HPT.out HG2.out).mono ?_;rintro e wd ⟨rfl, hb⟩;rw [(sameRos_iff _ _).2 rfl];replace B := Lib.hid (Below.step B.out hb);clear hb HPT HG2;go_wp2_with fail
       go_ret
       exact ⟨rfl, B.out⟩
end Go.Proofs.Ytpnaegohjbaggaa.groupTurns
namespace Go.Proofs.Ytpnaegohjbaggaa.groupTurns
open Go.ChangeShapes Go.WideShapes Go.ChangeAt Go.RowKit
open Go.ChangeMaps (open_string)
set_option maxRecDepth 100000 in
theorem contract (H : Type) (enc : TypeId × Value → H) (W : World) (base : Nat) (args : Array Value) (ds gs : List (DataW H)) (before : List MemPlace)
  (hval : ∀ (j : Nat) t v, Try.f8.params[j]? = some t → args[j]? = some v → Value.okWide Try.prog W .any base t v)
  (hW : DataW.Whole enc Try.prog Try.f8.params.toList Rows.groupTurnsSpec.vars false W args.toList ds gs before)
  (hz : (DataW.weightsEach Try.prog (Try.f8.params.toList ++ []) (ds ++ gs)).all (· ≤ reachBytes) = true) (_hL : laidMet Try.prog Rows.groupTurnsRow.laid W) :
  Calls Try.prog 8 args W fun e W' => ∃ v, e = .returned v ∧ Rows.groupTurnsSpec.post enc Try.prog Try.f8 false true false false W args v W' := by
 have hW' := hW;obtain ⟨p, q, hA0, hV, rfl, hfz, hnd⟩ := hW;have hA : DataW.TrodAll enc Try.prog W 0 (fun _ => true) true Try.f8.params.toList args.toList ds p := hA0;clear hA0;rw [Try.params8] at hA hval hz;obtain ⟨v0, vs0, d0, ds0, p0, q0, hargs, rfl, rfl, h0, r0⟩ := trodAll_cons hA;obtain ⟨v1, vs1, d1, ds1, p1, q1, rfl, rfl, rfl, h1, r1⟩ := trodAll_cons r0;obtain ⟨v2, vs2, d2, ds2, p2, q2, rfl, rfl, rfl, h2, r2⟩ := trodAll_cons r1;obtain ⟨rfl, rfl, rfl⟩ := trodAll_nil r2;obtain rfl : args = #[v0, v1, v2] := by cases args; simp_all
 obtain ⟨rfl, rfl⟩ := trodVars_none hV;have z0 : (DataW.weightsEach Try.prog [39, 3, 3] [d0, d1, d2]).all (· ≤ reachBytes) = true := by simpa using hz
 obtain ⟨f0, z1⟩ := fits_cons z0;obtain ⟨f1, z2⟩ := fits_cons z1;obtain ⟨f2, z3⟩ := fits_cons z2;obtain ⟨x0, g0⟩ := open_rws (hval 0 39 v0 rfl rfl) h0 f0;obtain ⟨x1, rfl, rfl, rfl, g1⟩ := open_int Try.underlying3 (hval 1 3 v1 rfl rfl) h1;obtain ⟨x2, rfl, rfl, rfl, g2⟩ := open_int Try.underlying3 (hval 2 3 v2 rfl rfl) h2
 -- USE: walk DATA W CELLS htab FACTS
 refine (walk x0 x1 x2 W v0 g0 (i64_wf g1) (i64_wf g2)).mono fun e W' ⟨he, hb⟩ => ⟨_, he, law_post rfl (by kernel_rfl) (fun t ht => ?_) hW' rfl hb⟩
 rw [Try.params8] at ht;have ht' : t = 39 ∨ t = 3 ∨ t = 3 := by simpa using ht
 rcases ht' with rfl | rfl | rfl <;> exact ⟨by kernel_rfl, of_decide_eq_true (by kernel_rfl)⟩
set_option maxRecDepth 100000 in
theorem laid_met (os : Os) : laidMet Try.prog Rows.groupTurnsRow.laid ((plainWorld os).forCall (fun _ _ => 0) ⟨#[], #[.slice none 0 0, .int .i64 0, .int .i64 0], []⟩).memory :=
 laidMet_of_run' 8 (by kernel_rfl) (by kernel_rfl)
set_option maxRecDepth 100000 in
theorem reads (os : Os) {H : Type} (enc : TypeId × Value → H) : ∃ places, DataW.whole enc Try.prog ((plainWorld os).forCall (fun _ _ => 0) ⟨#[], #[.slice none 0 0, .int .i64 0, .int .i64 0], []⟩).memory Try.f8.params.toList Rows.groupTurnsSpec.vars false (#[.slice none 0 0, .int .i64 0, .int .i64 0] : Array Value).toList 8 = some ([.nil, .lit (.int .i64 0), .lit (.int .i64 0)], [], places) :=
 ⟨[], by kernel_rfl⟩
set_option maxRecDepth 100000 in
theorem lifted (os : Os) (started : os.Started) (H : Type) (enc : TypeId × Value → H) (F : Stop.Interp) :
  ReturnsInHanded {} Try.checked os 8 .any ((OpenSpec.ofChange Rows.groupTurnsSpec).preRow enc Try.prog Try.f8 Rows.groupTurnsRow.domain false Rows.groupTurnsRow.laid) (((OpenSpec.ofChange Rows.groupTurnsSpec).at F).post enc Try.prog Try.f8 false true false false) := by
 obtain ⟨places, hx⟩ := reads os enc
 refine returnsInHanded_of_row (C := Try.checked) (s := OpenSpec.ofChange Rows.groupTurnsSpec) own started (by kernel_rfl) Try.func8
  (witness_row_at (enc := enc) (C := Try.checked) false (plainWorld os) #[.slice none 0 0, .int .i64 0, .int .i64 0] rfl (by kernel_rfl) (by kernel_rfl) (by kernel_rfl)
   (OpenSpec.preRow_of_cond 8 hx (by kernel_rfl) (fun k hk => by cases hk) (by kernel_rfl) (laid_met os))) ?_
 intro W base args ds gs before hval hW _ _ hz hL _ _;exact contract H enc W base args ds gs before hval hW hz hL
set_option maxRecDepth 100000 in
theorem said : Rows.GroupTurnsSaid :=
 OpenClaim.holds_of_cond 8 Try.f8 rfl rfl rfl rfl rfl rfl rfl ⟨rfl, rfl, rfl, rfl, rfl⟩ rfl rfl rfl rfl rfl (by kernel_rfl) Try.func8 (by kernel_rfl)
  (of_decide_eq_true (by kernel_rfl)) (by unfold Func.isWrapper; first | (rw [if_pos (by decide +kernel)]; kernel_rfl) | (rw [if_neg (by decide +kernel)]; exact ⟨rfl, rfl⟩))
  (fun os started H enc _ F => by rw [OpenClaim.pre_eq_preRow]; exact lifted os started H enc F)
theorem holds : Rows.GroupTurnsSaid := said
#print axioms holds
end Go.Proofs.Ytpnaegohjbaggaa.groupTurns
