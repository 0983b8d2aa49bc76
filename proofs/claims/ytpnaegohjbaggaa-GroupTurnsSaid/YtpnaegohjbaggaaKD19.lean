/-
  FlatKit, Bytes, LawName, PickZ, Pick, FitText, FitDef, SizeMk, NameOf, FitRight, ApartBase, Apart, GrPure, GrPureB, GrPureC, GrPureD, GrPureE
-/
import Derived.Test.YtpnaegohjbaggaaKD01
import Derived.Test.YtpnaegohjbaggaaKD08
import Derived.Test.YtpnaegohjbaggaaKD06
import Derived.Test.YtpnaegohjbaggaaKD17
import Derived.Test.YtpnaegohjbaggaaKD16
import Derived.Test.YtpnaegohjbaggaaKD18
import Derived.WalkSpells
import Derived.WalkLawsBesides
import Derived.Lib.ConvBytes
import Derived.Laws.IdiomStrings
import Derived.RowKit
namespace Go.Proofs.Ytpnaegohjbaggaa
open Go.RowKit
theorem flat_rep (S : Nat → Prop) (w : World) (k n : Int) (s : ByteArray) (hk : I64 k) (hn : I64 n) (hs : s.size ≤ maxLen) : RepG S w (.mk k n s []) (.int .i64 k) (.int .i64 n) (.string s) (.slice none 0 0) :=
 repG_mk.2 ⟨rfl, rfl, rfl, hk, hn, hs, none, 0, 0, 0, rfl, Nat.le_refl _, by simp, fun h => by omega, fun h => by simp at h, fun i hi => by simp at hi⟩
end Go.Proofs.Ytpnaegohjbaggaa
namespace Go.Proofs.Ytpnaegohjbaggaa
open Go.RowKit
end Go.Proofs.Ytpnaegohjbaggaa
namespace Go.Proofs.Ytpnaegohjbaggaa
open Go.RowKit
end Go.Proofs.Ytpnaegohjbaggaa
namespace Go.Proofs.Ytpnaegohjbaggaa
open Go.RowKit
def pickZ (c n : Int) : Int := (if c < 0 then -(c + 1) else c) % n
theorem pickZ_bd (c n : Int) (h : 0 < n) : 0 ≤ pickZ c n ∧ pickZ c n < n := ⟨Int.emod_nonneg _ (by omega), Int.emod_lt_of_pos _ h⟩
theorem ret_int' {k : IntKind} {a b : Int} (h : a = b) : Ending.returned (.int k a) = .returned (.int k b) := by rw [h]
end Go.Proofs.Ytpnaegohjbaggaa
namespace Go.Proofs.Ytpnaegohjbaggaa
open Go.RowKit
end Go.Proofs.Ytpnaegohjbaggaa
namespace Go.Proofs.Ytpnaegohjbaggaa
open Go.RowKit
end Go.Proofs.Ytpnaegohjbaggaa
namespace Go.Proofs.Ytpnaegohjbaggaa
open Go.RowKit
end Go.Proofs.Ytpnaegohjbaggaa
namespace Go.Proofs.Ytpnaegohjbaggaa
open Go.RowKit
end Go.Proofs.Ytpnaegohjbaggaa
namespace Go.Proofs.Ytpnaegohjbaggaa.valueNames
open Go.RowKit
end Go.Proofs.Ytpnaegohjbaggaa.valueNames
namespace Go.Proofs.Ytpnaegohjbaggaa
open Go.RowKit
end Go.Proofs.Ytpnaegohjbaggaa
namespace Go.Proofs.Ytpnaegohjbaggaa
open Go.RowKit
theorem bytes_ext {s t : ByteArray} (h : s.toList = t.toList) : s = t := by
 rw [Lib.toList_data, Lib.toList_data] at h
 cases s with
 | mk a => cases t with
  | mk b => simp at h; rw [h]
theorem none_of {s : ByteArray} (h : s.toList.isEmpty = true) : s = ⟨#[]⟩ := by
 refine bytes_ext ?_;have h0 : s.toList = [] := by simpa using h
 rw [h0, Lib.toList_data]
end Go.Proofs.Ytpnaegohjbaggaa
namespace Go.Proofs.Ytpnaegohjbaggaa
open Go.RowKit
theorem compareInt_zero {a b : Int} (h : Lib.compareInt a b = 0) : a = b := by
 unfold Lib.compareInt at h
 split at h
 ·cases h
 ·split at h
  ·cases h
  ·omega
theorem cmpS_zero {s t : ByteArray} (h : cmpS s t = 0) : s = t := by
 unfold cmpS at h
 split at h
 ·cases h
 ·split at h
  ·rename_i e; exact bytes_ext (by simpa using e)
  ·cases h
theorem rightL_cons {d : Nat} {x : V} {l : List V} (h : rightL d (x :: l) = true) : ∃ e, d = e + 1 ∧ rightV e x = true ∧ rightL d l = true := by
 cases d with
 | zero => simp [rightL] at h
 | succ e =>
  simp only [rightL, List.length_cons, List.all_cons, Bool.and_eq_true, decide_eq_true_eq] at h ⊢
  exact ⟨e, rfl, h.2.1, by omega, h.2.2⟩
mutual
theorem cmp_zero : ∀ (x y : V) (d : Nat), rightV d x = true → rightV d y = true → cmpV x y = 0 → x = y
 | .mk k n s l, .mk k' n' s' l', d, hx, hy, h => by
  rw [cmpV] at h
  by_cases e : k = k'
  ·subst e
   rw [if_neg (by simp)] at h;rw [rightV_mk] at hx hy;rcases baseB_cases hx with ⟨rfl, h1, rfl, _, _⟩ | ⟨rfl, rfl, rfl, _⟩ | ⟨rfl, rfl, rfl, _⟩ | ⟨rfl, rfl, h1, h2⟩
   ·rcases baseB_cases hy with ⟨_, h1', rfl, _, _⟩ | ⟨e, _⟩ | ⟨e, _⟩ | ⟨e, _⟩
    ·rw [if_pos rfl] at h
     rw [compareInt_zero h, none_of h1, none_of h1']
    all_goals exact absurd e (by decide)
   ·rcases baseB_cases hy with ⟨e, _⟩ | ⟨_, rfl, rfl, _⟩ | ⟨e, _⟩ | ⟨e, _⟩
    case inr.inl =>
     rw [if_neg (by decide), if_pos (Or.inl rfl)] at h;rw [cmpS_zero h]
    all_goals exact absurd e (by decide)
   ·rcases baseB_cases hy with ⟨e, _⟩ | ⟨e, _⟩ | ⟨_, rfl, rfl, _⟩ | ⟨e, _⟩
    case inr.inr.inl =>
     rw [if_neg (by decide), if_pos (Or.inr rfl)] at h;rw [cmpS_zero h]
    all_goals exact absurd e (by decide)
   ·rcases baseB_cases hy with ⟨e, _⟩ | ⟨e, _⟩ | ⟨e, _⟩ | ⟨_, rfl, h1', h2'⟩
    case inr.inr.inr =>
     rw [if_neg (by decide), if_neg (by decide), if_pos rfl] at h;rw [none_of h1, none_of h1', cmpL_zero l l' d h2 h2' h]
    all_goals exact absurd e (by decide)
  ·rw [if_pos e] at h
   exact absurd (compareInt_zero h) e
theorem cmpL_zero : ∀ (l m : List V) (d : Nat), rightL d l = true → rightL d m = true → cmpL l m = 0 → l = m
 | [], [], _, _, _, _ => rfl
 | [], _ :: _, _, _, _, h => by simp [cmpL] at h
 | _ :: _, [], _, _, _, h => by simp [cmpL] at h
 | x :: l, y :: m, d, hl, hm, h => by
  obtain ⟨e, rfl, hx, hl'⟩ := rightL_cons hl;obtain ⟨e', he, hy, hm'⟩ := rightL_cons hm;obtain rfl : e = e' := by omega
  rw [cmpL] at h
  by_cases hc : cmpV x y = 0
  ·rw [if_neg (by simpa using hc)] at h
   rw [cmp_zero x y e hx hy hc, cmpL_zero l m (e + 1) hl' hm' h]
  ·rw [if_pos hc] at h
   exact absurd h hc
end
end Go.Proofs.Ytpnaegohjbaggaa
namespace Go.Proofs.Ytpnaegohjbaggaa
open Go.RowKit
theorem cmpL_eq0 : ∀ l m : List V, cmpL l m = 0 ↔ l.length = m.length ∧ ∀ i (h : i < l.length) (h2 : i < m.length), cmpV l[i] m[i] = 0
 | [], [] => by simp [cmpL]
 | [], _ :: _ => by simp [cmpL]
 | _ :: _, [] => by simp [cmpL]
 | x :: l, y :: m => by
  rw [cmpL]
  by_cases hc : cmpV x y = 0
  ·rw [if_neg (by simpa using hc), cmpL_eq0 l m]
   constructor
   ·rintro ⟨h1, h2⟩
    refine ⟨by simp [h1], fun i hi hj => ?_⟩
    cases i with
    | zero => exact hc
    | succ i => exact h2 i (by simpa using hi) (by simpa using hj)
   ·rintro ⟨h1, h2⟩
    exact ⟨by simpa using h1, fun i hi hj => h2 (i + 1) (by simpa using hi) (by simpa using hj)⟩
  ·rw [if_pos hc]
   exact ⟨fun h => absurd h hc, fun h => absurd (h.2 0 (by simp) (by simp)) hc⟩
theorem three0 (a b c : Int) : (if a ≠ 0 then a else if b ≠ 0 then b else c) = 0 ↔ a = 0 ∧ b = 0 ∧ c = 0 := by
 by_cases ha : a = 0
 ·by_cases hb : b = 0
  ·simp [ha, hb]
  ·simp [ha, hb]
 ·simp [ha]
theorem cmpS_self0 (s : ByteArray) : cmpS s s = 0 := by have := (ord_bytes s s s).sym; omega
theorem but_zero {n : Nat} {x y : Ro} (hx : n < x.args.length) (hy : n < y.args.length) : cmpBut n x y = 0 ↔ AlikeP (n : Int) x y := by
 unfold cmpBut AlikeP;rw [orZ_three, three0, cmpL_eq0, cmpL_eq0]
 constructor
 ·rintro ⟨h1, ⟨h2, h3⟩, h4, h5⟩
  refine ⟨cmpS_zero h1, by simp only [List.length_drop] at h4; omega, fun i hi hj hne => ?_⟩
  by_cases hlt : i < n
  ·have := h3 i (by simp only [List.length_take]; omega) (by simp only [List.length_take]; omega)
   simpa using this
  ·have hgt : n + 1 ≤ i := by omega
   have := h5 (i - (n + 1)) (by simp only [List.length_drop]; omega) (by simp only [List.length_drop]; omega);simp only [List.getElem_drop] at this
   have e : n + 1 + (i - (n + 1)) = i := by omega
   simpa [e] using this
 ·rintro ⟨h1, h2, h3⟩
  refine ⟨by rw [h1]; exact cmpS_self0 _, ⟨by simp only [List.length_take]; omega, fun i hi hj => ?_⟩, by simp only [List.length_drop]; omega, fun i hi hj => ?_⟩
  ·simp only [List.length_take] at hi hj
   simp only [List.getElem_take]
   exact h3 i (by omega) (by omega) (by omega)
  ·simp only [List.length_drop] at hi hj
   simp only [List.getElem_drop]
   exact h3 (n + 1 + i) (by omega) (by omega) (by omega)
def rightRo (x : Ro) : Prop := rightL 5 x.args = true
theorem ro_zero {x y : Ro} (hx : rightRo x) (hy : rightRo y) (h : cmpRo x y = 0) : x.name = y.name ∧ x.args = y.args := by
 unfold cmpRo at h
 by_cases h1 : cmpS x.name y.name = 0
 ·rw [if_neg (by simpa using h1)] at h
  exact ⟨cmpS_zero h1, cmpL_zero _ _ 5 hx hy h⟩
 ·rw [if_pos h1] at h; exact absurd h h1
theorem ro_eq {x y : Ro} (hx : rightRo x) (hy : rightRo y) (h : cmpRo x y = 0) (hs : x.stamp = y.stamp) : x = y := by
 obtain ⟨h1, h2⟩ := ro_zero hx hy h
 cases x; cases y; simp_all
theorem rise_eq {α : Type} {lt : α → α → Prop} (hi : ∀ a, ¬ lt a a) (ha : ∀ a b, lt a b → ¬ lt b a) : ∀ l m : List α, l.Pairwise lt → m.Pairwise lt → (∀ x ∈ l, x ∈ m) → (∀ x ∈ m, x ∈ l) → l = m
 | [], [], _, _, _, _ => rfl
 | [], y :: _, _, _, _, h => absurd (h y (List.mem_cons_self ..)) (by simp)
 | x :: _, [], _, _, h, _ => absurd (h x (List.mem_cons_self ..)) (by simp)
 | x :: l, y :: m, h1, h2, h3, h4 => by
  rw [List.pairwise_cons] at h1 h2
  obtain rfl : x = y := by
   rcases List.mem_cons.1 (h3 x (List.mem_cons_self ..)) with e | e
   ·exact e
   ·rcases List.mem_cons.1 (h4 y (List.mem_cons_self ..)) with e' | e'
    ·exact e'.symm
    ·exact absurd (h1.1 y e') (ha _ _ (h2.1 x e))
  rw [rise_eq hi ha l m h1.2 h2.2 (fun z hz => ?_) (fun z hz => ?_)]
  ·rcases List.mem_cons.1 (h3 z (List.mem_cons_of_mem _ hz)) with rfl | e
   ·exact absurd (h1.1 _ hz) (hi _)
   ·exact e
  ·rcases List.mem_cons.1 (h4 z (List.mem_cons_of_mem _ hz)) with rfl | e
   ·exact absurd (h2.1 _ hz) (hi _)
   ·exact e
theorem cmpRo_asym {a b : Ro} (h : cmpRo a b < 0) : ¬ cmpRo b a < 0 := by have := (ord_cmpRo a b a).sym; omega
theorem cmpRo_irr (a : Ro) : ¬ cmpRo a a < 0 := by have := cmpRo_self a; omega
theorem rise_one {R : List Ro} (h : R.Pairwise fun a b => cmpRo a b < 0) {a b : Ro} (ha : a ∈ R) (hb : b ∈ R) (e : cmpRo a b = 0) : a = b := by
 induction R with
 | nil => simp at ha
 | cons x R ih =>
  rw [List.pairwise_cons] at h;have e2 : cmpRo b a = 0 := by have := (ord_cmpRo a b a).sym; omega
  rcases List.mem_cons.1 ha with e3 | ha'
  ·rcases List.mem_cons.1 hb with e4 | hb'
   ·rw [e3, e4]
   ·rw [e3] at e; have := h.1 b hb'; omega
  ·rcases List.mem_cons.1 hb with e4 | hb'
   ·rw [e4] at e2; have := h.1 a ha'; omega
   ·exact ih h.2 ha' hb'
theorem merge_sub {l m R Q : List Ro} (hl : ∀ x ∈ l, rightRo x) (hm : ∀ x ∈ m, rightRo x) (h : MergeIs l R) (k : MergeIs m Q) (h1 : ∀ x ∈ l, x ∈ m) (h2 : ∀ x ∈ m, x ∈ l) : ∀ r ∈ R, r ∈ Q := by
 intro r hr;have hrl := h.there r hr;obtain ⟨q, hq, e1, s1⟩ := k.best r (h1 r hrl);have hqm := k.there q hq;obtain ⟨p, hp, e2, s2⟩ := h.best q (h2 q hqm);have hpr := hl p (h.there p hp);have hrr := hl r hrl;have hqr := hm q hqm;obtain ⟨n1, a1⟩ := ro_zero hqr hrr e1;obtain ⟨n2, a2⟩ := ro_zero hpr hqr e2
 have e3 : cmpRo p r = 0 := by
  have := cmpRo_self r;have hc : cmpRo p r = cmpRo r r := by unfold cmpRo; rw [n2, a2, n1, a1]
  omega
 obtain rfl := rise_one h.rise hp hr e3
 rwa [ro_eq hqr hrr e1 (by omega)] at hq
theorem merge_one {l m R Q : List Ro} (hl : ∀ x ∈ l, rightRo x) (hm : ∀ x ∈ m, rightRo x) (h : MergeIs l R) (k : MergeIs m Q) (h1 : ∀ x ∈ l, x ∈ m) (h2 : ∀ x ∈ m, x ∈ l) : R = Q :=
 rise_eq (lt := fun a b => cmpRo a b < 0) cmpRo_irr (fun _ _ h => cmpRo_asym h) R Q h.rise k.rise (merge_sub hl hm h k h1 h2) (merge_sub hm hl k h h2 h1)
end Go.Proofs.Ytpnaegohjbaggaa
namespace Go.Proofs.Ytpnaegohjbaggaa
open Go.RowKit
theorem seg_cover {n : Nat} {M : List Cel} {blk o : Nat} {l : List Sl} (h : Segs n M blk o l) : ∀ p, p < o → ∃ i, ∃ h : i < l.length, l[i].2.1 ≤ p ∧ p < l[i].2.1 + l[i].2.2.1 := by
 induction h with
 | nil => intro p hp; omega
 | @snoc o k c l hs hk ho hal hne hc ih =>
  intro p hp
  by_cases hlt : p < o
  ·obtain ⟨i, hi, h1, h2⟩ := ih p hlt
   refine ⟨i, by rw [List.length_append, List.length_singleton]; omega, ?_, ?_⟩
   ·rw [List.getElem_append_left hi]; exact h1
   ·rw [List.getElem_append_left hi]; exact h2
  ·refine ⟨l.length, by rw [List.length_append, List.length_singleton]; omega, ?_, ?_⟩
   ·rw [List.getElem_append_right (Nat.le_refl _)]; simp only [Nat.sub_self, List.getElem_cons_zero]; omega
   ·rw [List.getElem_append_right (Nat.le_refl _)]; simp only [Nat.sub_self, List.getElem_cons_zero]; omega
theorem seg_alike {n : Nat} {M : List Cel} {blk o : Nat} {l : List Sl} (h : Segs n M blk o l) : ∀ i (hi : i < l.length) p (hp : p < M.length) (h0 : l[i].2.1 < M.length), l[i].2.1 ≤ p → p < l[i].2.1 + l[i].2.2.1 → cmpBut n M[l[i].2.1].1 M[p].1 = 0 := by
 induction h with
 | nil => intro i hi; simp at hi
 | @snoc o k c l hs hk ho hal hne hc ih =>
  intro i hi p hp h0 h1 h2;rw [List.length_append, List.length_singleton] at hi
  by_cases hlt : i < l.length
  ·simp only [List.getElem_append_left hlt] at h0 h1 h2 ⊢
   exact ih i hlt p hp h0 h1 h2
  ·have e : i = l.length := by omega
   subst e;simp only [List.getElem_append_right (Nat.le_refl _), Nat.sub_self, List.getElem_cons_zero] at h0 h1 h2 ⊢
   exact hal p hp h0 h1 h2
theorem seg_next {n : Nat} {M : List Cel} {blk o : Nat} {l : List Sl} (h : Segs n M blk o l) : ∀ i (hi : i < l.length) (h0 : l[i].2.1 < M.length) (h1 : l[i].2.1 + l[i].2.2.1 < M.length), cmpBut n M[l[i].2.1].1 M[l[i].2.1 + l[i].2.2.1].1 ≠ 0 := by
 induction h with
 | nil => intro i hi; simp at hi
 | @snoc o k c l hs hk ho hal hne hc ih =>
  intro i hi h0 h1;rw [List.length_append, List.length_singleton] at hi
  by_cases hlt : i < l.length
  ·simp only [List.getElem_append_left hlt] at h0 h1 ⊢
   exact ih i hlt h0 h1
  ·have e : i = l.length := by omega
   subst e;simp only [List.getElem_append_right (Nat.le_refl _), Nat.sub_self, List.getElem_cons_zero] at h0 h1 ⊢
   exact hne h1 h0
end Go.Proofs.Ytpnaegohjbaggaa
namespace Go.Proofs.Ytpnaegohjbaggaa
open Go.RowKit
theorem cmpV_self0 (x : V) : cmpV x x = 0 := by have := (ord_value x x x).sym; omega
theorem alike_refl (k : Int) (x : Ro) : AlikeP k x x := ⟨rfl, rfl, fun _i _h _h2 _ => cmpV_self0 _⟩
theorem alike_symm {k : Int} {x y : Ro} (h : AlikeP k x y) : AlikeP k y x :=
 ⟨h.1.symm, h.2.1.symm, fun i h1 h2 hne => by have := h.2.2 i h2 h1 hne; have := (ord_value x.args[i] y.args[i] y.args[i]).sym; omega⟩
theorem alike_trans {k : Int} {x y z : Ro} (h : AlikeP k x y) (g : AlikeP k y z) : AlikeP k x z :=
 ⟨h.1.trans g.1, h.2.1.trans g.2.1, fun i h1 h2 hne => by
  have hy : i < y.args.length := by rw [← h.2.1]; exact h1
  have e1 := h.2.2 i h1 hy hne;have e2 := g.2.2 i hy h2 hne
  rw [← (ord_value x.args[i] y.args[i] z.args[i]).eqv e1]; exact e2⟩
theorem seg_less {n : Nat} {M : List Cel} {blk : Nat} {l : List Sl} (hM : M.Pairwise (fun a b => ¬ cmpBut n b.1 a.1 < 0)) (h : Segs n M blk M.length l) (i j : Nat) (hi : i < l.length) (hj : j < l.length) (hij : i < j) (h0 : l[i].2.1 < M.length) (h1 : l[j].2.1 < M.length) :
  cmpBut n M[l[i].2.1].1 M[l[j].2.1].1 < 0 := by
 obtain ⟨-, hf⟩ := seg_facts h;obtain ⟨-, k1, -, -, hnx⟩ := hf i hi;have hle := hnx j hj hij;rw [List.pairwise_iff_getElem] at hM;have hp : l[i].2.1 + l[i].2.2.1 < M.length := by omega
 have hn := seg_next h i hi h0 hp;have hs := hM _ _ h0 hp (by omega);have o1 := (ord_cmpBut n M[l[i].2.1].1 M[l[i].2.1 + l[i].2.2.1].1 M[l[j].2.1].1);have hlt : cmpBut n M[l[i].2.1].1 M[l[i].2.1 + l[i].2.2.1].1 < 0 := by have := o1.sym; omega
 refine o1.lt hlt ?_
 by_cases e : l[i].2.1 + l[i].2.2.1 = l[j].2.1
 ·simp only [e]
  have := (ord_cmpBut n M[l[j].2.1].1 M[l[j].2.1].1 M[l[j].2.1].1).sym; omega
 ·have hs2 := hM _ _ hp h1 (by omega)
  have := (ord_cmpBut n M[l[i].2.1 + l[i].2.2.1].1 M[l[j].2.1].1 M[l[j].2.1].1).sym; omega
theorem new_alike {tv : Cel → List Cel → V} {n : Nat} {M : List Cel} {s : Sl} (hk : 0 < s.2.2.1) (ho : s.2.1 + s.2.2.1 ≤ M.length) (h0 : s.2.1 < M.length) :
  AlikeP (n : Int) (newOf tv n M s).1 M[s.2.1].1 := by
 unfold newOf;rw [setOf_cons hk ho];refine ⟨rfl, by simp [newCel], fun i h1 h2 hne => ?_⟩;simp only [newCel]
 rw [List.getElem_set_ne (by omega)];exact cmpV_self0 _
theorem group_apart {s : ByteArray} {n : Nat} {l G : List Ro} (h : GroupIs s n l G) : G.Pairwise (fun a b => ¬ AlikeP (n : Int) a b ∧ ¬ AlikeP (n : Int) b a) := by
 obtain ⟨R, M, blk, segs, hR, hperm, hM, hsg, hG, -⟩ := h
 have hall : ∀ x ∈ M, n < x.1.args.length := fun x hx => by
  have := hperm.mem_iff.1 (List.mem_map_of_mem hx)
  simpa using (List.mem_filter.1 this).2
 refine (hG.pairwise_iff (fun {x y} hxy => ⟨hxy.2, hxy.1⟩)).2 ?_;rw [List.pairwise_iff_getElem];intro i j hi hj hij;simp only [List.length_map] at hi hj
 simp only [List.getElem_map]
 obtain ⟨-, hf⟩ := seg_facts hsg;obtain ⟨-, ki, oi, -, -⟩ := hf i hi;obtain ⟨-, kj, oj, -, -⟩ := hf j hj;have li : segs[i].2.1 < M.length := by omega
 have lj : segs[j].2.1 < M.length := by omega
 have hl := seg_less hM hsg i j hi hj hij li lj
 have hno : ¬ AlikeP (n : Int) (newOf (aggV s n) n M segs[i]).1 (newOf (aggV s n) n M segs[j]).1 := fun ha => by
  have h1 := alike_trans (alike_trans (alike_symm (new_alike ki oi li)) ha) (new_alike kj oj lj);have h2 := (but_zero (hall _ (List.getElem_mem li)) (hall _ (List.getElem_mem lj))).2 h1;omega
 exact ⟨hno, fun ha => hno (alike_symm ha)⟩
theorem group_there {s : ByteArray} {n : Nat} {l G : List Ro} (hl : ∀ x ∈ l, rightRo x) (h : GroupIs s n l G) (y : Ro) (hy : y ∈ l) (hn : n < y.args.length) : ∃ g ∈ G, AlikeP (n : Int) g y := by
 obtain ⟨R, M, blk, segs, hR, hperm, hM, hsg, hG, -⟩ := h;obtain ⟨r, hr, hc, -⟩ := hR.best y hy;obtain ⟨hnm, har⟩ := ro_zero (hl r (hR.there r hr)) (hl y hy) hc;have hrf : r ∈ R.filter fun r => decide (n < r.args.length) := List.mem_filter.2 ⟨hr, by rw [har]; exact decide_eq_true hn⟩
 obtain ⟨x, hx, rfl⟩ := List.mem_map.1 (hperm.mem_iff.2 hrf);obtain ⟨p, hp, rfl⟩ := List.getElem_of_mem hx;obtain ⟨i, hi, h1, h2⟩ := seg_cover hsg p hp;obtain ⟨-, hf⟩ := seg_facts hsg;obtain ⟨-, ki, oi, -, -⟩ := hf i hi;have li : segs[i].2.1 < M.length := by omega
 have hall : ∀ x ∈ M, n < x.1.args.length := fun x hx => by
  have := hperm.mem_iff.1 (List.mem_map_of_mem hx)
  simpa using (List.mem_filter.1 this).2
 refine ⟨_, hG.mem_iff.2 (List.mem_map_of_mem (List.getElem_mem hi)), ?_⟩;have ha := (but_zero (hall _ (List.getElem_mem li)) (hall _ hx)).1 (seg_alike hsg i hi p hp li h1 h2);refine alike_trans (new_alike ki oi li) (alike_trans ha ?_);exact ⟨hnm, by rw [har], fun i a b _ => by simp only [har]; exact cmpV_self0 _⟩
end Go.Proofs.Ytpnaegohjbaggaa
namespace Go.Proofs.Ytpnaegohjbaggaa
open Go.RowKit
theorem longZ_ge : ∀ (l : List Cel) (m : Int), m ≤ longZ m l ∧ ∀ y ∈ l, y.1.stamp ≤ longZ m l
 | [], m => ⟨Int.le_refl _, fun y h => by simp at h⟩
 | z :: l, m => by
  rw [longZ];obtain ⟨h1, h2⟩ := longZ_ge l (if m < z.1.stamp then z.1.stamp else m);have h3 : m ≤ (if m < z.1.stamp then z.1.stamp else m) ∧ z.1.stamp ≤ (if m < z.1.stamp then z.1.stamp else m) := by split <;> omega
  refine ⟨by omega, fun y hy => ?_⟩;rcases List.mem_cons.1 hy with e | e
  ·rw [e]; omega
  ·exact h2 y e
theorem longZ_in : ∀ (l : List Cel) (m : Int), longZ m l = m ∨ ∃ y ∈ l, y.1.stamp = longZ m l
 | [], m => .inl rfl
 | z :: l, m => by
  rw [longZ];rcases longZ_in l (if m < z.1.stamp then z.1.stamp else m) with h | ⟨y, hy, h⟩
  ·rw [h]
   split
   ·exact .inr ⟨z, List.mem_cons_self .., rfl⟩
   ·exact .inl rfl
  ·exact .inr ⟨y, List.mem_cons_of_mem _ hy, h⟩
theorem setOf_mem {M : List Cel} {s : Sl} {y : Cel} (h : y ∈ setOf M s) : ∃ p, ∃ hp : p < M.length, s.2.1 ≤ p ∧ p < s.2.1 + s.2.2.1 ∧ M[p] = y := by
 obtain ⟨i, hi, rfl⟩ := List.getElem_of_mem h;have h2 : i < min s.2.2.1 (M.length - s.2.1) := by simpa [setOf, List.length_take, List.length_drop] using hi
 exact ⟨s.2.1 + i, by omega, by omega, by omega, by simp [setOf]⟩
theorem mem_setOf {M : List Cel} {s : Sl} {p : Nat} (hp : p < M.length) (h1 : s.2.1 ≤ p) (h2 : p < s.2.1 + s.2.2.1) : M[p] ∈ setOf M s := by
 have hl : p - s.2.1 < (setOf M s).length := by simp only [setOf, List.length_take, List.length_drop]; omega
 have e : (setOf M s)[p - s.2.1] = M[p] := by
  simp only [setOf, List.getElem_take, List.getElem_drop]
  congr 1; omega
 rw [← e]; exact List.getElem_mem hl
structure MadeOf (s : ByteArray) (n : Nat) (R : List Ro) (g : Ro) (x : Cel) (L : List Cel) : Prop where
 row : g = (newCel (aggV s n) n x L).1
 of : ∀ y ∈ x :: L, y.1 ∈ R ∧ n < y.1.args.length ∧ AlikeP (n : Int) g y.1
 all : ∀ r ∈ R, AlikeP (n : Int) g r → ∃ y ∈ x :: L, y.1 = r
 one : ((x :: L).map (·.1)).Nodup
theorem group_made {s : ByteArray} {n : Nat} {l G : List Ro} (h : GroupIs s n l G) : ∃ R, MergeIs l R ∧ ∀ g ∈ G, n < g.args.length ∧ ∃ x L, MadeOf s n R g x L := by
 obtain ⟨R, M, blk, segs, hR, hperm, hM, hsg, hG, -⟩ := h;refine ⟨R, hR, fun g hg => ?_⟩
 have hall : ∀ x ∈ M, x.1 ∈ R ∧ n < x.1.args.length := fun x hx => by
  have := List.mem_filter.1 (hperm.mem_iff.1 (List.mem_map_of_mem hx));exact ⟨this.1, by simpa using this.2⟩
 obtain ⟨q, hq, rfl⟩ := List.mem_map.1 (hG.mem_iff.1 hg);obtain ⟨i, hi, rfl⟩ := List.getElem_of_mem hq;obtain ⟨-, hf⟩ := seg_facts hsg;obtain ⟨-, ki, oi, -, -⟩ := hf i hi;have li : segs[i].2.1 < M.length := by omega
 have hal := new_alike (tv := aggV s n) (n := n) ki oi li;refine ⟨by rw [hal.2.1]; exact (hall _ (List.getElem_mem li)).2, ?_⟩;obtain ⟨x, L, hxl⟩ : ∃ x L, setOf M segs[i] = x :: L := ⟨_, _, setOf_cons ki oi⟩;refine ⟨x, L, by unfold newOf; rw [hxl], fun y hy => ?_, fun r hr ha => ?_, ?_⟩
 ·rw [← hxl] at hy
  obtain ⟨p, hp, h1, h2, rfl⟩ := setOf_mem hy;have hyM := hall _ (List.getElem_mem hp);exact ⟨hyM.1, hyM.2, alike_trans hal ((but_zero (hall _ (List.getElem_mem li)).2 hyM.2).1 (seg_alike hsg i hi p hp li h1 h2))⟩
 ·have hrn : n < r.args.length := by rw [← ha.2.1, hal.2.1]; exact (hall _ (List.getElem_mem li)).2
  obtain ⟨y, hy, rfl⟩ := List.mem_map.1 (hperm.mem_iff.2 (List.mem_filter.2 ⟨hr, decide_eq_true hrn⟩));obtain ⟨p, hp, rfl⟩ := List.getElem_of_mem hy;obtain ⟨j, hj, h1, h2⟩ := seg_cover hsg p hp;obtain ⟨-, kj, oj, -, -⟩ := hf j hj;have lj : segs[j].2.1 < M.length := by omega
  have hz : cmpBut n M[segs[i].2.1].1 M[segs[j].2.1].1 = 0 :=
   (but_zero (hall _ (List.getElem_mem li)).2 (hall _ (List.getElem_mem lj)).2).2 (alike_trans (alike_trans (alike_symm hal) ha)
    (alike_symm ((but_zero (hall _ (List.getElem_mem lj)).2 hrn).1 (seg_alike hsg j hj p hp lj h1 h2))))
  have e : j = i := by
   rcases Nat.lt_trichotomy i j with e | e | e
   ·have := seg_less hM hsg i j hi hj e li lj; omega
   ·exact e.symm
   ·have := seg_less hM hsg j i hj hi e lj li
    have := (ord_cmpBut n M[segs[i].2.1].1 M[segs[j].2.1].1 M[segs[j].2.1].1).sym;omega
  subst e;exact ⟨_, by rw [← hxl]; exact mem_setOf hp h1 h2, rfl⟩
 ·rw [← hxl]
  have hnd : R.Nodup := hR.rise.imp fun {a b} hab e => by rw [e] at hab; exact cmpRo_irr b hab
  have hM2 : (M.map (·.1)).Nodup := hperm.nodup_iff.2 (hnd.sublist List.filter_sublist);exact hM2.sublist (((List.take_sublist _ _).trans (List.drop_sublist _ _)).map _)
theorem group_stamp {s : ByteArray} {n : Nat} {l G : List Ro} (hl : ∀ x ∈ l, rightRo x) (h : GroupIs s n l G) (g : Ro) (hg : g ∈ G) : (∀ y ∈ l, AlikeP (n : Int) g y → y.stamp ≤ g.stamp) ∧ ∃ y ∈ l, AlikeP (n : Int) g y ∧ y.stamp = g.stamp := by
 obtain ⟨R, hR, hall⟩ := group_made h;obtain ⟨hn, x, L, hm⟩ := hall g hg;have hst : g.stamp = longZ x.1.stamp (x :: L) := by rw [hm.row]; rfl
 obtain ⟨g1, g2⟩ := longZ_ge (x :: L) x.1.stamp;refine ⟨fun y hy ha => ?_, ?_⟩
 ·obtain ⟨r, hr, hc, hs⟩ := hR.best y hy
  obtain ⟨hnm, har⟩ := ro_zero (hl r (hR.there r hr)) (hl y hy) hc;obtain ⟨z, hz, rfl⟩ := hm.all r hr (alike_trans ha ⟨hnm.symm, by rw [har], fun i a b _ => by simp only [har]; exact cmpV_self0 _⟩);have := g2 z hz;omega
 ·obtain ⟨z, hz, he⟩ : ∃ z ∈ x :: L, z.1.stamp = longZ x.1.stamp (x :: L) := by
   rcases longZ_in (x :: L) x.1.stamp with e | e
   ·exact ⟨x, List.mem_cons_self .., e.symm⟩
   ·exact e
  obtain ⟨h1, -, h3⟩ := hm.of z hz;exact ⟨z.1, hR.there _ h1, h3, by rw [he, hst]⟩
end Go.Proofs.Ytpnaegohjbaggaa
namespace Go.Proofs.Ytpnaegohjbaggaa
open Go.RowKit
theorem ord_cmpAt (n : Nat) : IsOrd (cmpAt n) := fun a b c => by
 have o := ord_value (argN n a) (argN n b) (argN n c);exact ⟨o.rng, o.sym, o.eqv, o.lt, o.gt⟩
theorem ord_le {α : Type} {f : α → α → Int} (hf : IsOrd f) {a b c : α} (h1 : f a b ≤ 0) (h2 : f b c ≤ 0) : f a c ≤ 0 := by
 have o := hf a b c
 by_cases h : f a b = 0
 ·have := o.eqv h; omega
 ·have := o.lt (by omega) h2; omega
theorem ord_self {α : Type} {f : α → α → Int} (hf : IsOrd f) (a : α) : f a a = 0 := by have := (hf a a a).sym; omega
theorem minC_le {cf : Cel → Cel → Int} (hf : IsOrd cf) : ∀ (l : List Cel) (m : Cel), cf (minC cf m l) m ≤ 0 ∧ ∀ y ∈ l, cf (minC cf m l) y ≤ 0
 | [], m => ⟨by rw [minC, ord_self hf]; exact Int.le_refl _, fun y h => by simp at h⟩
 | z :: l, m => by
  rw [minC];obtain ⟨h1, h2⟩ := minC_le hf l (if cf z m < 0 then z else m)
  have h3 : cf (if cf z m < 0 then z else m) m ≤ 0 ∧ cf (if cf z m < 0 then z else m) z ≤ 0 := by
   have := ord_self hf z; have := ord_self hf m; have := (hf z m m).sym
   split <;> constructor <;> omega
  refine ⟨ord_le hf h1 h3.1, fun y hy => ?_⟩;rcases List.mem_cons.1 hy with e | e
  ·rw [e]; exact ord_le hf h1 h3.2
  ·exact h2 y e
theorem maxC_ge {cf : Cel → Cel → Int} (hf : IsOrd cf) : ∀ (l : List Cel) (m : Cel), cf m (maxC cf m l) ≤ 0 ∧ ∀ y ∈ l, cf y (maxC cf m l) ≤ 0
 | [], m => ⟨by rw [maxC, ord_self hf]; exact Int.le_refl _, fun y h => by simp at h⟩
 | z :: l, m => by
  rw [maxC];obtain ⟨h1, h2⟩ := maxC_ge hf l (if cf z m > 0 then z else m)
  have h3 : cf m (if cf z m > 0 then z else m) ≤ 0 ∧ cf z (if cf z m > 0 then z else m) ≤ 0 := by
   have := ord_self hf z; have := ord_self hf m; have := (hf z m m).sym
   split <;> constructor <;> omega
  refine ⟨ord_le hf h3.1 h1, fun y hy => ?_⟩;rcases List.mem_cons.1 hy with e | e
  ·rw [e]; exact ord_le hf h3.2 h1
  ·exact h2 y e
theorem made_at {s : ByteArray} {n : Nat} {R : List Ro} {g : Ro} {x : Cel} {L : List Cel} (h : MadeOf s n R g x L) (hn : n < g.args.length) : g.args[n] = aggV s n x L := by
 have e : g.args = x.1.args.set n (aggV s n x L) := by rw [h.row]; rfl
 simp only [e, List.getElem_set_self]
theorem aggV_min {s : ByteArray} (h : s.toList = [109, 105, 110]) (n : Nat) (x : Cel) (L : List Cel) : aggV s n x L = argN n (minC (cmpAt n) x L) := by
 unfold aggV; rw [if_pos (beq_iff_eq.2 h)]
theorem aggV_max {s : ByteArray} (h : s.toList = [109, 97, 120]) (n : Nat) (x : Cel) (L : List Cel) : aggV s n x L = argN n (maxC (cmpAt n) x L) := by
 unfold aggV; rw [if_neg (by rw [h]; decide), if_pos (beq_iff_eq.2 h)]
theorem aggV_count {s : ByteArray} (h : s.toList = [99, 111, 117, 110, 116]) (n : Nat) (x : Cel) (L : List Cel) : aggV s n x L = numN ((L.length + 1 : Nat) : Int) := by
 unfold aggV; rw [if_neg (by rw [h]; decide), if_neg (by rw [h]; decide)]
theorem made_find {s : ByteArray} {n : Nat} {l R : List Ro} {g : Ro} {x : Cel} {L : List Cel} (hl : ∀ x ∈ l, rightRo x) (hR : MergeIs l R) (h : MadeOf s n R g x L) (y : Ro) (hy : y ∈ l) (ha : AlikeP (n : Int) g y) : ∃ z ∈ x :: L, z.1.args = y.args := by
 obtain ⟨r, hr, hc, -⟩ := hR.best y hy;obtain ⟨hnm, har⟩ := ro_zero (hl r (hR.there r hr)) (hl y hy) hc;obtain ⟨z, hz, e⟩ := h.all r hr (alike_trans ha ⟨hnm.symm, by rw [har], fun i a b _ => by simp only [har]; exact cmpV_self0 _⟩);exact ⟨z, hz, by rw [e, har]⟩
theorem argN_of {n : Nat} {z : Cel} {y : Ro} (e : z.1.args = y.args) (h : n < y.args.length) : argN n z = y.args[n] := by
 rw [argN_at (by rw [e]; exact h)]; simp only [e]
theorem group_min {s : ByteArray} {n : Nat} {l G : List Ro} (hs : s.toList = [109, 105, 110]) (hl : ∀ x ∈ l, rightRo x) (h : GroupIs s n l G) (g : Ro) (hg : g ∈ G) : ∃ hn : n < g.args.length,
  (∃ y ∈ l, AlikeP (n : Int) g y ∧ ∃ hy : n < y.args.length, cmpV y.args[n] g.args[n] = 0) ∧ ∀ y ∈ l, AlikeP (n : Int) g y → ∀ hy : n < y.args.length, 0 ≤ cmpV y.args[n] g.args[n] := by
 obtain ⟨R, hR, hall⟩ := group_made h;obtain ⟨hn, x, L, hm⟩ := hall g hg;have hat := made_at hm hn;rw [aggV_min hs] at hat;refine ⟨hn, ?_, fun y hy ha hyn => ?_⟩
 ·obtain ⟨h1, h2, h3⟩ := hm.of _ (minC_mem (cmpAt n) L x)
  refine ⟨_, hR.there _ h1, h3, h2, ?_⟩;rw [hat, argN_at h2]; exact cmpV_self0 _
 ·obtain ⟨z, hz, e⟩ := made_find hl hR hm y hy ha
  have hle : cmpAt n (minC (cmpAt n) x L) z ≤ 0 := by
   obtain ⟨h1, h2⟩ := minC_le (ord_cmpAt n) L x;rcases List.mem_cons.1 hz with e | e
   ·rw [e]; exact h1
   ·exact h2 z e
  unfold cmpAt at hle;rw [argN_of e hyn] at hle;rw [hat];have := (ord_value y.args[n] (argN n (minC (cmpAt n) x L)) y.args[n]).sym;unfold cmpAt at this ⊢;omega
theorem group_max {s : ByteArray} {n : Nat} {l G : List Ro} (hs : s.toList = [109, 97, 120]) (hl : ∀ x ∈ l, rightRo x) (h : GroupIs s n l G) (g : Ro) (hg : g ∈ G) : ∃ hn : n < g.args.length,
  (∃ y ∈ l, AlikeP (n : Int) g y ∧ ∃ hy : n < y.args.length, cmpV y.args[n] g.args[n] = 0) ∧ ∀ y ∈ l, AlikeP (n : Int) g y → ∀ hy : n < y.args.length, cmpV y.args[n] g.args[n] ≤ 0 := by
 obtain ⟨R, hR, hall⟩ := group_made h;obtain ⟨hn, x, L, hm⟩ := hall g hg;have hat := made_at hm hn;rw [aggV_max hs] at hat;refine ⟨hn, ?_, fun y hy ha hyn => ?_⟩
 ·obtain ⟨h1, h2, h3⟩ := hm.of _ (maxC_mem (cmpAt n) L x)
  refine ⟨_, hR.there _ h1, h3, h2, ?_⟩;rw [hat, argN_at h2]; exact cmpV_self0 _
 ·obtain ⟨z, hz, e⟩ := made_find hl hR hm y hy ha
  have hle : cmpAt n z (maxC (cmpAt n) x L) ≤ 0 := by
   obtain ⟨h1, h2⟩ := maxC_ge (ord_cmpAt n) L x;rcases List.mem_cons.1 hz with e | e
   ·rw [e]; exact h1
   ·exact h2 z e
  rw [hat];unfold cmpAt at hle ⊢;rw [argN_of e hyn] at hle;exact hle
theorem seg_sum {n : Nat} {M : List Cel} {blk o : Nat} {l : List Sl} (h : Segs n M blk o l) : (l.map fun q => q.2.2.1).sum = o := by
 induction h with
 | nil => rfl
 | @snoc o k c l hs hk ho hal hne hc ih => simp [List.map_append, List.sum_append, ih]
theorem group_count {s : ByteArray} {n : Nat} {l G : List Ro} (hs : s.toList = [99, 111, 117, 110, 116]) (h : GroupIs s n l G) : ∃ (R : List Ro) (C : List Nat), MergeIs l R ∧ (∀ c ∈ C, 1 ≤ c) ∧ C.sum = (R.filter fun r => decide (n < r.args.length)).length ∧
  (G.map fun g => g.args[n]?).Perm (C.map fun (c : Nat) => some (numN (c : Int))) := by
 obtain ⟨R, M, blk, segs, hR, hperm, hM, hsg, hG, -⟩ := h;obtain ⟨-, hf⟩ := seg_facts hsg;refine ⟨R, segs.map fun q => q.2.2.1, hR, fun c hc => ?_, ?_, ?_⟩
 ·obtain ⟨q, hq, rfl⟩ := List.mem_map.1 hc
  obtain ⟨i, hi, rfl⟩ := List.getElem_of_mem hq;exact (hf i hi).2.1
 ·rw [seg_sum hsg, ← hperm.length_eq, List.length_map]
 ·refine (hG.map _).trans ?_
  rw [List.map_map, List.map_map];refine List.Perm.of_eq (List.map_congr_left fun q hq => ?_);obtain ⟨i, hi, rfl⟩ := List.getElem_of_mem hq;obtain ⟨-, ki, oi, -, -⟩ := hf i hi;have li : segs[i].2.1 < M.length := by omega
  have hlen : n < M[segs[i].2.1].1.args.length := by
   have := (List.mem_filter.1 (hperm.mem_iff.1 (List.mem_map_of_mem (f := (·.1)) (List.getElem_mem li)))).2
   simpa using this
  simp only [Function.comp, newOf]
  rw [setOf_cons ki oi];simp only [newCel]
  rw [List.getElem?_set_self hlen, aggV_count hs]
  congr 2
  simp only [List.length_take, List.length_drop]
  have : min (segs[i].2.2.1 - 1) (M.length - (segs[i].2.1 + 1)) + 1 = segs[i].2.2.1 := by omega
  rw [this]
end Go.Proofs.Ytpnaegohjbaggaa
