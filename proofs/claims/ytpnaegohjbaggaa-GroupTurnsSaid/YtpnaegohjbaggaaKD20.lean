/-
  GrPureF, GrEx, RegionFA
-/
import Derived.Test.YtpnaegohjbaggaaKD19
import Derived.Test.YtpnaegohjbaggaaKD01
namespace Go.Proofs.Ytpnaegohjbaggaa
open Go.RowKit
open Classical in
theorem few_of {α : Type} : ∀ (l m : List α), l.Nodup → (∀ x ∈ l, x ∈ m) → l.length ≤ m.length
 | [], m, _, _ => Nat.zero_le _
 | x :: l, m, h, hs => by
  rw [List.nodup_cons] at h;have hx := hs x (List.mem_cons_self ..);have := few_of l (m.erase x) h.2 (fun y hy => (List.mem_erase_of_ne (fun e => h.1 (by rw [← e]; exact hy))).2 (hs y (List.mem_cons_of_mem _ hy)));rw [List.length_erase_of_mem hx] at this;have := List.length_pos_of_mem hx;simp only [List.length_cons]; omega
theorem right_at {x : Ro} (h : rightRo x) {i : Nat} (hi : i < x.args.length) : rightV 4 x.args[i] = true := by
 have h2 : (decide (x.args.length ≤ 16) && x.args.all (rightV 4)) = true := h;rw [Bool.and_eq_true, List.all_eq_true] at h2;exact h2.2 _ (List.getElem_mem hi)
theorem aggV_or {s : ByteArray} (hs : AggName s) (n : Nat) (x : Cel) (L : List Cel) :
  (s.toList = [109, 105, 110] ∧ aggV s n x L = argN n (minC (cmpAt n) x L)) ∨ (s.toList = [109, 97, 120] ∧ aggV s n x L = argN n (maxC (cmpAt n) x L)) ∨ (s.toList = [99, 111, 117, 110, 116] ∧ aggV s n x L = numN ((L.length + 1 : Nat) : Int)) := by
 rcases hs with h | h | h
 ·exact .inl ⟨h, aggV_min h n x L⟩
 ·exact .inr (.inl ⟨h, aggV_max h n x L⟩)
 ·exact .inr (.inr ⟨h, aggV_count h n x L⟩)
theorem made_len {s : ByteArray} {n : Nat} {R : List Ro} {g g' : Ro} {x x' : Cel} {L L' : List Cel} (h : MadeOf s n R g x L) (h' : MadeOf s n R g' x' L') (ha : AlikeP (n : Int) g' g) : L.length ≤ L'.length := by
 have := few_of _ ((x' :: L').map (·.1)) h.one (fun r hr => by
  obtain ⟨y, hy, rfl⟩ := List.mem_map.1 hr;obtain ⟨h1, -, h3⟩ := h.of y hy;obtain ⟨z, hz, e⟩ := h'.all _ h1 (alike_trans ha h3)
  exact List.mem_map.2 ⟨z, hz, e⟩)
 simpa using this
theorem made_min {s : ByteArray} {n : Nat} {R : List Ro} {g g' : Ro} {x x' : Cel} {L L' : List Cel} (h : MadeOf s n R g x L) (h' : MadeOf s n R g' x' L') (ha : AlikeP (n : Int) g g') : cmpV (argN n (minC (cmpAt n) x L)) (argN n (minC (cmpAt n) x' L')) ≤ 0 := by
 obtain ⟨h1, -, h3⟩ := h'.of _ (minC_mem (cmpAt n) L' x');obtain ⟨z, hz, e⟩ := h.all _ h1 (alike_trans ha h3)
 have hle : cmpAt n (minC (cmpAt n) x L) z ≤ 0 := by
  obtain ⟨k1, k2⟩ := minC_le (ord_cmpAt n) L x;rcases List.mem_cons.1 hz with e | e
  ·rw [e]; exact k1
  ·exact k2 z e
 have e2 : argN n z = argN n (minC (cmpAt n) x' L') := by unfold argN; rw [e]
 unfold cmpAt at hle;rw [e2] at hle; exact hle
theorem made_max {s : ByteArray} {n : Nat} {R : List Ro} {g g' : Ro} {x x' : Cel} {L L' : List Cel} (h : MadeOf s n R g x L) (h' : MadeOf s n R g' x' L') (ha : AlikeP (n : Int) g g') : cmpV (argN n (maxC (cmpAt n) x' L')) (argN n (maxC (cmpAt n) x L)) ≤ 0 := by
 obtain ⟨h1, -, h3⟩ := h'.of _ (maxC_mem (cmpAt n) L' x');obtain ⟨z, hz, e⟩ := h.all _ h1 (alike_trans ha h3)
 have hle : cmpAt n z (maxC (cmpAt n) x L) ≤ 0 := by
  obtain ⟨k1, k2⟩ := maxC_ge (ord_cmpAt n) L x;rcases List.mem_cons.1 hz with e | e
  ·rw [e]; exact k1
  ·exact k2 z e
 have e2 : argN n z = argN n (maxC (cmpAt n) x' L') := by unfold argN; rw [e]
 unfold cmpAt at hle;rw [e2] at hle; exact hle
theorem made_arg {s : ByteArray} {n : Nat} {R : List Ro} {g g' : Ro} {x x' : Cel} {L L' : List Cel} (hs : AggName s) (hR : ∀ r ∈ R, rightRo r) (h : MadeOf s n R g x L) (h' : MadeOf s n R g' x' L') (ha : AlikeP (n : Int) g g') : aggV s n x L = aggV s n x' L' := by
 have hb := alike_symm ha
 have hr : ∀ y ∈ x :: L, rightV 4 (argN n y) = true := fun y hy => by
  obtain ⟨h1, h2, -⟩ := h.of y hy;rw [argN_at h2]; exact right_at (hR _ h1) h2
 have hr' : ∀ y ∈ x' :: L', rightV 4 (argN n y) = true := fun y hy => by
  obtain ⟨h1, h2, -⟩ := h'.of y hy;rw [argN_at h2]; exact right_at (hR _ h1) h2
 rcases hs with e | e | e
 ·rw [aggV_min e, aggV_min e]
  refine cmp_zero _ _ 4 (hr _ (minC_mem _ _ _)) (hr' _ (minC_mem _ _ _)) ?_;have h1 := made_min h h' ha;have h2 := made_min h' h hb;have := (ord_value (argN n (minC (cmpAt n) x L)) (argN n (minC (cmpAt n) x' L')) (argN n (minC (cmpAt n) x L))).sym;omega
 ·rw [aggV_max e, aggV_max e]
  refine cmp_zero _ _ 4 (hr _ (maxC_mem _ _ _)) (hr' _ (maxC_mem _ _ _)) ?_;have h1 := made_max h h' ha;have h2 := made_max h' h hb;have := (ord_value (argN n (maxC (cmpAt n) x L)) (argN n (maxC (cmpAt n) x' L')) (argN n (maxC (cmpAt n) x L))).sym;omega
 ·rw [aggV_count e, aggV_count e]
  have h1 := made_len h h' hb;have h2 := made_len h' h ha;have : L.length = L'.length := by omega
  rw [this]
theorem made_stamp {s : ByteArray} {n : Nat} {R : List Ro} {g g' : Ro} {x x' : Cel} {L L' : List Cel} (h : MadeOf s n R g x L) (h' : MadeOf s n R g' x' L') (ha : AlikeP (n : Int) g' g) : g.stamp ≤ g'.stamp := by
 have e1 : g.stamp = longZ x.1.stamp (x :: L) := by rw [h.row]; rfl
 have e2 : g'.stamp = longZ x'.1.stamp (x' :: L') := by rw [h'.row]; rfl
 obtain ⟨z, hz, he⟩ : ∃ z ∈ x :: L, z.1.stamp = longZ x.1.stamp (x :: L) := by
  rcases longZ_in (x :: L) x.1.stamp with e | e
  ·exact ⟨x, List.mem_cons_self .., e.symm⟩
  ·exact e
 obtain ⟨h1, -, h3⟩ := h.of z hz;obtain ⟨y, hy, e⟩ := h'.all _ h1 (alike_trans ha h3);have := (longZ_ge (x' :: L') x'.1.stamp).2 y hy;rw [e] at this; omega
theorem made_one {s : ByteArray} {n : Nat} {R : List Ro} {g g' : Ro} {x x' : Cel} {L L' : List Cel} (hs : AggName s) (hR : ∀ r ∈ R, rightRo r) (h : MadeOf s n R g x L) (h' : MadeOf s n R g' x' L') (hn : n < g.args.length) (ha : AlikeP (n : Int) g g') : g = g' := by
 have hst : g.stamp = g'.stamp := by
  have := made_stamp h h' (alike_symm ha); have := made_stamp h' h ha; omega
 have hn' : n < g'.args.length := by rw [← ha.2.1]; exact hn
 have hargs : g.args = g'.args := by
  refine List.ext_getElem ha.2.1 fun i hi hj => ?_
  by_cases e : i = n
  ·subst e
   rw [made_at h hn, made_at h' hn', made_arg hs hR h h' ha]
  ·obtain ⟨h1, -, h3⟩ := h.of x (List.mem_cons_self ..)
   obtain ⟨h1', -, h3'⟩ := h'.of x' (List.mem_cons_self ..);have e1 : g.args = x.1.args.set n (aggV s n x L) := by rw [h.row]; rfl
   have e2 : g'.args = x'.1.args.set n (aggV s n x' L') := by rw [h'.row]; rfl
   have hxi : i < x.1.args.length := by rw [← h3.2.1]; exact hi
   have hxj : i < x'.1.args.length := by rw [← h3'.2.1]; exact hj
   have k1 : g.args[i] = x.1.args[i] := by simp only [e1]; rw [List.getElem_set_ne (by omega)]
   have k2 : g'.args[i] = x'.1.args[i] := by simp only [e2]; rw [List.getElem_set_ne (by omega)]
   have hz := ha.2.2 i hi hj (by omega);rw [k1, k2] at hz ⊢;exact cmp_zero _ _ 4 (right_at (hR _ h1) hxi) (right_at (hR _ h1') hxj) hz
 have hnm := ha.1
 cases g; cases g'; simp_all
theorem group_rise {s : ByteArray} {n : Nat} {l G : List Ro} (h : GroupIs s n l G) : G.Pairwise (fun a b => cmpRo a b < 0) := by
 have hap := group_apart h;obtain ⟨R, M, blk, segs, hR, hperm, hM, hsg, hG, hs⟩ := h;refine (hs.and hap).imp fun {a b} hab => ?_
 have o := (ord_cmpRo a b a).sym
 by_cases e : cmpRo a b = 0
 ·exfalso
  refine hab.2.1 ?_;unfold cmpRo at e
  by_cases e1 : cmpS a.name b.name = 0
  ·rw [if_neg (by simpa using e1)] at e
   obtain ⟨h1, h2⟩ := (cmpL_eq0 _ _).1 e;exact ⟨cmpS_zero e1, h1, fun i p q _ => h2 i p q⟩
  ·rw [if_pos e1] at e; exact absurd e e1
 ·have := hab.1; omega
theorem group_sub {s : ByteArray} {n : Nat} {l m G H : List Ro} (hs : AggName s) (hl : ∀ x ∈ l, rightRo x) (hm : ∀ x ∈ m, rightRo x) (h : GroupIs s n l G) (k : GroupIs s n m H) (e : ∀ R Q, MergeIs l R → MergeIs m Q → R = Q) : ∀ g ∈ G, g ∈ H := by
 intro g hg;obtain ⟨R, hR, hall⟩ := group_made h;obtain ⟨Q, hQ, hall2⟩ := group_made k;obtain rfl := e R Q hR hQ;obtain ⟨hn, x, L, hx⟩ := hall g hg;obtain ⟨h1, h2, h3⟩ := hx.of x (List.mem_cons_self ..);obtain ⟨g', hg', ha'⟩ := group_there hm k x.1 (hQ.there _ h1) h2;obtain ⟨hn', x', L', hx'⟩ := hall2 g' hg';rw [made_one hs (fun r hr => hl r (hR.there r hr)) hx hx' hn (alike_trans h3 (alike_symm ha'))];exact hg'
theorem group_one {s : ByteArray} {n : Nat} {l m G H : List Ro} (hs : AggName s) (hl : ∀ x ∈ l, rightRo x) (hm : ∀ x ∈ m, rightRo x) (h : GroupIs s n l G) (k : GroupIs s n m H) (e : ∀ R Q, MergeIs l R → MergeIs m Q → R = Q) : G = H :=
 rise_eq (lt := fun a b => cmpRo a b < 0) cmpRo_irr (fun _ _ h => cmpRo_asym h) G H (group_rise h) (group_rise k) (group_sub hs hl hm h k e) (group_sub hs hm hl k h fun Q R hQ hR => (e R Q hR hQ).symm)
end Go.Proofs.Ytpnaegohjbaggaa
namespace Go.Proofs.Ytpnaegohjbaggaa
open Go.RowKit
def vA : V := .mk 3 0 ⟨#[97]⟩ []
def xRo (n s : Int) : Ro := ⟨⟨#[112]⟩, [vA, numN n], s⟩
def cRo (n s : Int) : Cel := (xRo n s, .slice none 0 0)
theorem cmpV_num (a b : Int) : cmpV (numN a) (numN b) = Lib.compareInt a b := by
 rw [numN, numN, cmpV, if_neg (fun h => h rfl), if_pos rfl]
theorem xRo_cmp (a b s t : Int) : cmpRo (xRo a s) (xRo b t) = Lib.compareInt a b := by
 have h1 : cmpS (xRo a s).name (xRo b t).name = 0 := cmpS_self0 _;rw [cmpRo, h1, if_neg (by simp)]
 show cmpL [vA, numN a] [vA, numN b] = _
 rw [cmpL, if_neg (by simp [cmpV_self0]), cmpL, cmpV_num, cmpL]
 split
 ·rfl
 ·rename_i h; exact (Decidable.not_not.1 h).symm
theorem xRo_alike (a b s t : Int) : AlikeP 1 (xRo a s) (xRo b t) := ⟨rfl, rfl, fun i h h2 hk => by
 match i, h, h2, hk with
 | 0, _, _, _ => exact cmpV_self0 _
 | 1, _, _, hk => exact absurd rfl hk⟩
theorem xRo_right (a s : Int) (h : 0 ≤ a ∧ a ≤ 100) : rightRo (xRo a s) := by
 show rightL 5 [vA, numN a] = true
 have h1 : nameB ⟨#[97]⟩ = true := by decide
 simp [rightL, rightV, vA, numN, baseB, h1]
 try omega
theorem ex_merge : MergeIs [xRo 3 4, xRo 5 2] [xRo 3 4, xRo 5 2] where
 rise := by
  refine List.pairwise_cons.2 ⟨fun b hb => ?_, List.pairwise_singleton _ _⟩;rw [List.mem_singleton.1 hb, xRo_cmp]; decide
 there := fun _ h => h
 best := fun x hx => ⟨x, hx, cmpRo_self x, Int.le_refl _⟩
theorem ex_is (s : ByteArray) : GroupIs s 1 [xRo 3 4, xRo 5 2] [⟨⟨#[112]⟩, [vA, aggV s 1 (cRo 3 4) [cRo 5 2]], 4⟩] := by
 refine ⟨_, [cRo 3 4, cRo 5 2], 0, [(0, 0, 2, 2)], ex_merge, List.Perm.refl _, ?_, ?_, List.Perm.of_eq ?_, List.pairwise_singleton _ _⟩
 ·refine List.pairwise_cons.2 ⟨fun b hb => ?_, List.pairwise_singleton _ _⟩
  rw [List.mem_singleton.1 hb];have := (but_zero (n := 1) (x := (cRo 5 2).1) (y := (cRo 3 4).1) (by decide) (by decide)).2 (xRo_alike _ _ _ _);omega
 ·refine Segs.snoc (o := 0) (k := 2) (c := 2) (l := []) .nil (by omega) (by simp) (fun i h h0 _ _ => ?_) (fun h => by simp at h) (Nat.le_refl _)
  match i, h with
  | 0, _ => exact (but_zero (n := 1) (x := (cRo 3 4).1) (y := (cRo 3 4).1) (by decide) (by decide)).2 (xRo_alike _ _ _ _)
  | 1, _ => exact (but_zero (n := 1) (x := (cRo 3 4).1) (y := (cRo 5 2).1) (by decide) (by decide)).2 (xRo_alike _ _ _ _)
 ·rfl
theorem ex_one {s : ByteArray} {G : List Ro} (hs : AggName s) (h : GroupIs s 1 [xRo 3 4, xRo 5 2] G) : G = [⟨⟨#[112]⟩, [vA, aggV s 1 (cRo 3 4) [cRo 5 2]], 4⟩] := by
 have hr : ∀ x ∈ [xRo 3 4, xRo 5 2], rightRo x := fun x hx => by
  rcases List.mem_cons.1 hx with rfl | hx
  ·exact xRo_right _ _ (by omega)
  ·rw [List.mem_singleton.1 hx]; exact xRo_right _ _ (by omega)
 exact group_one hs hr hr h (ex_is s) (fun R Q a b => merge_one hr hr a b (fun _ h => h) (fun _ h => h))
def sMin : ByteArray := ⟨#[109, 105, 110]⟩
def sMax : ByteArray := ⟨#[109, 97, 120]⟩
def sCount : ByteArray := ⟨#[99, 111, 117, 110, 116]⟩
def sSum : ByteArray := ⟨#[115, 117, 109]⟩
theorem sMin_l : sMin.toList = [109, 105, 110] := by rw [Lib.toList_data]; rfl
theorem sMax_l : sMax.toList = [109, 97, 120] := by rw [Lib.toList_data]; rfl
theorem sCount_l : sCount.toList = [99, 111, 117, 110, 116] := by rw [Lib.toList_data]; rfl
theorem sSum_l : sSum.toList = [115, 117, 109] := by rw [Lib.toList_data]; rfl
theorem agg_min : AggName sMin := .inl sMin_l
theorem agg_max : AggName sMax := .inr (.inl sMax_l)
theorem agg_count : AggName sCount := .inr (.inr sCount_l)
theorem agg_sum : ¬ AggName sSum := by
 unfold AggName;rw [sSum_l]
 decide
theorem ex_count {G : List Ro} (h : GroupIs sCount 1 [xRo 3 4, xRo 5 2] G) : G = [xRo 2 4] := by
 rw [ex_one agg_count h, aggV_count sCount_l]; rfl
theorem ex_max {G : List Ro} (h : GroupIs sMax 1 [xRo 3 4, xRo 5 2] G) : G = [xRo 5 4] := by
 rw [ex_one agg_max h, aggV_max sMax_l]
 have : maxC (cmpAt 1) (cRo 3 4) [cRo 5 2] = cRo 5 2 := by
  have h1 : cmpAt 1 (cRo 5 2) (cRo 3 4) = 1 := by
   show cmpV (numN 5) (numN 3) = 1
   rw [cmpV_num]; decide
  rw [maxC, h1, if_pos (by decide), maxC]
 rw [this]; rfl
end Go.Proofs.Ytpnaegohjbaggaa
namespace Go.Proofs.Ytpnaegohjbaggaa
open Go.RowKit
inductive FE where
 | e (c : Value)
 | p (P : World → Value → Prop)
 | o
def FE.ok (w : World) (v : Value) : FE → Prop
 | .e c => v = c
 | .p P => P w v
 | .o => True
def FA (l : List FE) (w : World) (i : Nat) (v : Value) : Prop := FE.ok w v (l.getD i .o)
def FSt (w w' : World) : List FE → Prop
 | [] => True
 | .e _ :: l => FSt w w' l
 | .p P :: l => (∀ v, P w v → P w' v) ∧ FSt w w' l
 | .o :: l => FSt w w' l
theorem fSt : ∀ {l : List FE} {w w' : World}, FSt w w' l → ∀ i v, FA l w i v → FA l w' i v
 | [], _, _, _, _, _, _ => trivial
 | .e _ :: _, _, _, _, 0, _, g => g
 | .p _ :: _, _, _, h, 0, v, g => h.1 v g
 | .o :: _, _, _, _, 0, _, _ => trivial
 | .e _ :: l, _, _, h, i + 1, v, g => fSt (l := l) h i v g
 | .p _ :: l, _, _, h, i + 1, v, g => fSt (l := l) h.2 i v g
 | .o :: l, _, _, h, i + 1, v, g => fSt (l := l) h i v g
inductive FP where
 | e (c : Value)
 | p (P : World → Value → Prop)
 | t (P : World → Value → Prop)
 | o
def FP.ok (ph : Bool) (w : World) (v : Value) : FP → Prop
 | .e c => v = c
 | .p P => ph = false → P w v
 | .t P => ph = true → P w v
 | .o => True
def FB (l : List FP) (ph : Bool) (w : World) (i : Nat) (v : Value) : Prop := FP.ok ph w v (l.getD i .o)
def FStP (w w' : World) : List FP → Prop
 | [] => True
 | .e _ :: l => FStP w w' l
 | .p P :: l => (∀ v, P w v → P w' v) ∧ FStP w w' l
 | .t _ :: l => FStP w w' l
 | .o :: l => FStP w w' l
theorem fStP : ∀ {l : List FP} {w w' : World}, FStP w w' l → ∀ i v, FB l false w i v → FB l false w' i v
 | [], _, _, _, _, _, _ => trivial
 | .e _ :: _, _, _, _, 0, _, g => g
 | .p _ :: _, _, _, h, 0, v, g => fun e => h.1 v (g e)
 | .t _ :: _, _, _, _, 0, _, _ => fun e => absurd e (by decide)
 | .o :: _, _, _, _, 0, _, _ => trivial
 | .e _ :: l, _, _, h, i + 1, v, g => fStP (l := l) h i v g
 | .p _ :: l, _, _, h, i + 1, v, g => fStP (l := l) h.2 i v g
 | .t _ :: l, _, _, h, i + 1, v, g => fStP (l := l) h i v g
 | .o :: l, _, _, h, i + 1, v, g => fStP (l := l) h i v g
def noT : List FP → Bool
 | [] => true
 | .t _ :: _ => false
 | .e _ :: l | .p _ :: l | .o :: l => noT l
def oneT : List FP → Nat → Bool
 | [], _ => true
 | .t _ :: l, 0 => noT l
 | .t _ :: _, _ + 1 => false
 | .e _ :: l, 0 | .p _ :: l, 0 | .o :: l, 0 => noT l
 | .e _ :: l, i + 1 | .p _ :: l, i + 1 | .o :: l, i + 1 => oneT l i
theorem noT_pass : ∀ {l : List FP}, noT l = true → ∀ {w w' : World} i v, FB l false w i v → FB l true w' i v
 | [], _, _, _, _, _, _ => trivial
 | .e _ :: _, _, _, _, 0, _, g => g
 | .p _ :: _, _, _, _, 0, _, _ => fun e => absurd e (by decide)
 | .o :: _, _, _, _, 0, _, _ => trivial
 | .e _ :: l, h, _, _, i + 1, v, g => noT_pass (l := l) h i v g
 | .p _ :: l, h, _, _, i + 1, v, g => noT_pass (l := l) h i v g
 | .o :: l, h, _, _, i + 1, v, g => noT_pass (l := l) h i v g
theorem fPass : ∀ {l : List FP} {t : Nat}, oneT l t = true → ∀ {w w' : World} i v, i ≠ t → FB l false w i v → FB l true w' i v
 | [], _, _, _, _, _, _, _, _ => trivial
 | .t _ :: _, 0, _, _, _, 0, _, n, _ => absurd rfl n
 | .t _ :: l, 0, h, _, _, i + 1, v, _, g => noT_pass (l := l) h i v g
 | .e _ :: _, _, _, _, _, 0, _, _, g => g
 | .p _ :: _, _, _, _, _, 0, _, _, _ => fun e => absurd e (by decide)
 | .o :: _, _, _, _, _, 0, _, _, _ => trivial
 | .e _ :: l, 0, h, _, _, i + 1, v, _, g => noT_pass (l := l) h i v g
 | .p _ :: l, 0, h, _, _, i + 1, v, _, g => noT_pass (l := l) h i v g
 | .o :: l, 0, h, _, _, i + 1, v, _, g => noT_pass (l := l) h i v g
 | .e _ :: l, t + 1, h, _, _, i + 1, v, n, g => fPass (l := l) (t := t) h i v (fun e => n (by rw [e])) g
 | .p _ :: l, t + 1, h, _, _, i + 1, v, n, g => fPass (l := l) (t := t) h i v (fun e => n (by rw [e])) g
 | .o :: l, t + 1, h, _, _, i + 1, v, n, g => fPass (l := l) (t := t) h i v (fun e => n (by rw [e])) g
end Go.Proofs.Ytpnaegohjbaggaa
