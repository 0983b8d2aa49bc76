/-
  BindData, BindPure, TermBoxM, LgSlg, FlatKit, Bytes, LawName, PickZ, Pick
-/
import Derived.Test.YtjmnnjikmmglpaaKD04
import Derived.Test.YtjmnnjikmmglpaaKD09
import Derived.Test.YtjmnnjikmmglpaaKD05
import Derived.Test.YtjmnnjikmmglpaaKD01
import Derived.Test.YtjmnnjikmmglpaaKD07
import Derived.WalkSpells
import Derived.WalkLawsBesides
import Derived.Lib.ConvBytes
import Derived.Laws.IdiomStrings
namespace Go.Proofs.Ytjmnnjikmmglpaa
open Go.RowKit
abbrev Bd := ByteArray × V
def RepB (S : Nat → Prop) (w : World) (x : Bd) (c0 c1 c2 c3 c4 : Value) : Prop := c0 = .string x.1 ∧ x.1.size ≤ maxLen ∧ RepG S w x.2 c1 c2 c3 c4
theorem RepB.on {S S' : Nat → Prop} {w w' : World} (hS : ∀ k, S k → S' k) (hw : ∀ k, S k → w'.heap[k]? = w.heap[k]?) {x : Bd} {c0 c1 c2 c3 c4 : Value} (h : RepB S w x c0 c1 c2 c3 c4) : RepB S' w' x c0 c1 c2 c3 c4 :=
 ⟨h.1, h.2.1, RepG.on hS hw _ h.2.2⟩
theorem RepB.form {S : Nat → Prop} {w : World} {x : Bd} {c0 c1 c2 c3 c4 : Value} (h : RepB S w x c0 c1 c2 c3 c4) :
  ∃ fa fc, c0 = .string x.1 ∧ c1 = .int .i64 x.2.kind ∧ c2 = .int .i64 x.2.num ∧ c3 = .string x.2.text ∧ c4 = .slice fa x.2.list.length fc := by
 obtain ⟨fa, fc, e1, e2, e3, e4⟩ := h.2.2.form;exact ⟨fa, fc, h.1, e1, e2, e3, e4⟩
def kdB : Kd Bd where
 T := 43
 ST := 24
 n := 5
 bytes := 72
 R := fun S w x c => RepB S w x (c 0) (c 1) (c 2) (c 3) (c 4)
 pos := by omega
 few := by omega
 on := fun hS hw h => RepB.on hS hw h
 one := fun h j hj => by
  obtain ⟨ga, gc, e0, e1, e2, e3, e4⟩ := h.form
  match j, hj with
  | 0, _ => rw [e0]; rfl
  | 1, _ => rw [e1]; rfl
  | 2, _ => rw [e2]; rfl
  | 3, _ => rw [e3]; rfl
  | 4, _ => rw [e4]; rfl
 und := Try.underlying24
 info := info_of (by kernel_rfl)
def RepBs (S : Nat → Prop) (w : World) (l : List Bd) (v : Value) : Prop := SlG S w 5 72 (fun x c => RepB S w x (c 0) (c 1) (c 2) (c 3) (c 4)) l v
theorem RepBs.on {S S' : Nat → Prop} {w w' : World} (hS : ∀ k, S k → S' k) (hw : ∀ k, S k → w'.heap[k]? = w.heap[k]?) {l : List Bd} {v : Value} (h : RepBs S w l v) : RepBs S' w' l v :=
 SlG.on hS hw (fun _ _ _ hx => RepB.on hS hw hx) h
theorem RepBs.at {S : Nat → Prop} {w : World} {l : List Bd} {a : Option Addr} {len cap : Nat} (h : RepBs S w l (.slice a len cap)) (i : Nat) (hi : i < l.length) :
  len = l.length ∧ l.length ≤ cap ∧ ∃ (b o : Nat) (fa : Option Addr) (fc : Nat), a = some ⟨b, o, none⟩ ∧ S b ∧ w.cell? ⟨b, o + i * 5, none⟩ = some (.string l[i].1) ∧ w.cell? ⟨b, o + i * 5 + 1, none⟩ = some (.int .i64 l[i].2.kind) ∧
   w.cell? ⟨b, o + i * 5 + 2, none⟩ = some (.int .i64 l[i].2.num) ∧ w.cell? ⟨b, o + i * 5 + 3, none⟩ = some (.string l[i].2.text) ∧ w.cell? ⟨b, o + i * 5 + 4, none⟩ = some (.slice fa l[i].2.list.length fc) ∧
   RepB S w l[i] (.string l[i].1) (.int .i64 l[i].2.kind) (.int .i64 l[i].2.num) (.string l[i].2.text) (.slice fa l[i].2.list.length fc) := by
 obtain ⟨h1, h2, b, o, h3, h4, c, hc, hR⟩ := SlG.at h i hi;obtain ⟨fa, fc, e0, e1, e2, e3, e4⟩ := hR.form;rw [e0, e1, e2, e3, e4] at hR;refine ⟨h1, h2, b, o, fa, fc, h3, h4, ?_, ?_, ?_, ?_, ?_, hR⟩
 ·have h := hc 0 (by decide); rw [e0] at h; exact h
 ·have h := hc 1 (by decide); rw [e1] at h; exact h
 ·have h := hc 2 (by decide); rw [e2] at h; exact h
 ·have h := hc 3 (by decide); rw [e3] at h; exact h
 ·have h := hc 4 (by decide); rw [e4] at h; exact h
theorem MineS.appendB {α : Type} {K : Kd α} {S : Nat → Prop} {w : World} {B : Nat} {L : List α} {lv : Value} {y : α} {b : Nat} {cs : Array Value} {t : TypeId} {fz : Nat × Nat} {c : Nat → Value} (h : MineS K S w B L lv) (hB : B ≤ w.heap.size)
  (hby : (L.length + 1) * K.bytes ≤ 140737488355328) (h63 : L.length + 1 ≤ 140737488355328)
  (hb : w.heap[b]? = some (.cells cs t fz)) (hc : ∀ j, j < K.n → cs[j]? = some (c j)) (hR : K.R (fun b => (S b ∨ B ≤ b) ∧ b < w.heap.size ∧ lv.ownBlock ≠ some b) w y c) (ty : TypeId) :
  ∃ (a : Option Addr) (cap : Nat) (w6 : World), (Builtin.append_ #[K.ST, K.ST] ty #[lv, .slice (some ⟨b, 0, none⟩) 1 1]).run Try.prog w = .ok (.slice a (L.length + 1) cap) w6 ∧ MineS K S w6 B (L ++ [y]) (.slice a (L.length + 1) cap) ∧ w.grownBy w6 lv.ownBlock := by
 obtain ⟨i0, z, hi, hz0, hz1, hz2, hz3⟩ := K.info;obtain ⟨xs, hrow, hr⟩ := h;have keep : ∀ w6 : World, w.grownBy w6 lv.ownBlock → ∀ k, ((S k ∨ B ≤ k) ∧ k < w.heap.size ∧ lv.ownBlock ≠ some k) → w6.heap[k]? = w.heap[k]? := fun w6 hg k hk => hg.block k hk.2.1 (fun e => hk.2.2 e.symm)
 have hn : K.n ≤ cs.size := by
  rcases Nat.lt_or_ge cs.size K.n with hlt | hge
  ·have := hc cs.size hlt; rw [Array.getElem?_eq_none (Nat.le_refl _)] at this; cases this
  ·exact hge
 have hys : ∀ j u, (cs.toList.take K.n)[j]? = some u → j < K.n ∧ cs[j]? = some u := fun j u hj => by
  rw [List.getElem?_take] at hj
  split at hj
  ·rename_i hlt; exact ⟨hlt, by rw [← Array.getElem?_toList]; exact hj⟩
  ·cases hj
 have hyl : (cs.toList.take K.n).length = 1 * K.n := by rw [List.length_take, Array.length_toList]; omega
 obtain ⟨v', w6, hrun, h1, h2, _, h5⟩ := run_append_own_at (P := Try.prog) w B K.ST ty K.T i0 z K.n K.bytes K.und hi hz0 hz1 hz2 hz3 K.pos lv L.length xs hrow ⟨b, 0, none⟩ 1 1 (cs.toList.take K.n) hyl
  (fun j u hj => by
   have e : ((⟨b, 0, none⟩ : Addr).add j) = ⟨b, 0 + j, none⟩ := add_lit' _ _ _;rw [e, Nat.zero_add]
   exact cell_of_block' hb u (hys j u hj).2)
  (fun u hu => by
   obtain ⟨j, hj, rfl⟩ := List.getElem_of_mem hu;obtain ⟨hj1, hj2⟩ := hys j _ (List.getElem?_eq_getElem hj);rw [Option.some.inj (hj2.symm.trans (hc j hj1))]
   exact K.one hR j hj1) (by unfold maxLen; omega) hby hB
 have hsub : ∀ k, ((S k ∨ B ≤ k) ∧ k < w.heap.size ∧ lv.ownBlock ≠ some k) → ((S k ∨ B ≤ k) ∧ k < w6.heap.size ∧ v'.ownBlock ≠ some k) := fun k hk => ⟨hk.1, Nat.lt_of_lt_of_le hk.2.1 h2.size, fun e => by
  rcases h5 with h5 | h5
  ·exact hk.2.2 (h5.symm.trans e)
  ·rw [h5] at e; have := Option.some.inj e; omega⟩
 have hm : MineS K S w6 B (L ++ [y]) v' := by
  refine ⟨xs ++ cs.toList.take K.n, by rw [List.length_append]; exact h1, fun i hi' => ?_⟩
  by_cases hlt : i < L.length
  ·obtain ⟨c', hc', hR'⟩ := hr i hlt
   refine ⟨c', fun j hj => ?_, by rw [List.getElem_append_left hlt]; exact K.on hsub (keep w6 h2) hR'⟩
   have hil : i * K.n + j < xs.length := by
    rw [hrow.1];have : (i + 1) * K.n ≤ L.length * K.n := Nat.mul_le_mul_right _ hlt;rw [Nat.succ_mul] at this; omega
   rw [List.getElem?_append_left hil]; exact hc' j hj
  ·obtain rfl : i = L.length := by simp at hi'; omega
   refine ⟨c, fun j hj => ?_, by rw [List.getElem_append_right (Nat.le_refl _)]; simpa using K.on hsub (keep w6 h2) hR⟩;rw [List.getElem?_append_right (by rw [hrow.1]; omega), hrow.1, show L.length * K.n + j - L.length * K.n = j by omega, List.getElem?_take, if_pos hj, Array.getElem?_toList];exact hc j hj
 obtain ⟨a, cap, rfl⟩ := OwnK.form hm;rw [List.length_append, List.length_singleton] at hrun hm;exact ⟨a, cap, w6, hrun, hm, h2⟩
theorem MineS.slgB {α : Type} {K : Kd α} {S : Nat → Prop} {w : World} {B : Nat} {l : List α} {v : Value} (h : MineS K S w B l v) (hby : l.length * K.bytes ≤ 140737488355328) : SlG (fun b => (S b ∨ B ≤ b) ∧ b < w.heap.size) w K.n K.bytes (K.R (fun b => (S b ∨ B ≤ b) ∧ b < w.heap.size) w) l v := by
 obtain ⟨xs, ⟨hlen, hown⟩, hr⟩ := h;rcases hown with ⟨rfl, hn⟩ | ⟨g, cap, cur, rfl, hbg, hh, hnc, hcm, hcs, htk⟩
 ·obtain rfl : l = [] := List.length_eq_zero_iff.1 hn
  exact ⟨none, 0, 0, 0, rfl, Nat.le_refl _, by simp, fun h => by omega, fun h => by simp at h, fun i hi => by simp at hi⟩
 ·have hgl := (Array.getElem?_eq_some_iff.1 hh).1
  refine ⟨_, g, 0, cap, rfl, hnc, hby, fun _ => rfl, fun _ => ⟨.inr hbg, hgl⟩, fun i hi => ?_⟩;obtain ⟨c, hc, hR⟩ := hr i hi;refine ⟨c, fun j hj => ?_, K.on (fun k hk => ⟨hk.1, hk.2.1⟩) (fun _ _ => rfl) hR⟩;have h1 := hc j hj;rw [← htk, List.getElem?_take] at h1
  have hlt : i * K.n + j < l.length * K.n := by
   have : (i + 1) * K.n ≤ l.length * K.n := Nat.mul_le_mul_right _ hi;rw [Nat.succ_mul] at this; omega
  rw [if_pos hlt] at h1;rw [show 0 + i * K.n + j = i * K.n + j by omega];exact cell_of_block' hh _ (by rw [← Array.getElem?_toList]; exact h1)
def lookZ (s : ByteArray) : List Bd → Option V
 | [] => none
 | x :: l => if (x.1.toList == s.toList) = true then some x.2 else lookZ s l
def opO (s : ByteArray) : List V → Option V
 | [x, y] => (opZ s x y).map numV
 | _ => none
mutual
/-- What a term is. -/
def evalM (E : List Bd) : Tm → Option V
 | .mk k s x l =>
  if k = 1 then lookZ s E else if k = 2 then some x
  else if k = 3 then (match evalL E l with | none => none | some m => callV (fnOf s) m)
  else if k = 4 then (match evalL E l with | none => none | some m => opO s m)
  else none
def evalL (E : List Bd) : List Tm → Option (List V)
 | [] => some []
 | t :: l => match evalM E t with
  | none => none
  | some x => match evalL E l with
   | none => none
   | some m => some (x :: m)
end
theorem evalM_mk (E : List Bd) (k : Int) (s : ByteArray) (x : V) (l : List Tm) : evalM E (.mk k s x l) =
  if k = 1 then lookZ s E else if k = 2 then some x
  else if k = 3 then (match evalL E l with | none => none | some m => callV (fnOf s) m)
  else if k = 4 then (match evalL E l with | none => none | some m => opO s m)
  else none := by rw [evalM]
theorem evalM_eq (E : List Bd) (t : Tm) : evalM E t =
  if t.kind = 1 then lookZ t.name E else if t.kind = 2 then some t.val
  else if t.kind = 3 then (match evalL E t.args with | none => none | some m => callV (fnOf t.name) m)
  else if t.kind = 4 then (match evalL E t.args with | none => none | some m => opO t.name m)
  else none := by cases t; exact evalM_mk ..
theorem evalL_nil (E : List Bd) : evalL E [] = some [] := by rw [evalL]
theorem evalL_cons (E : List Bd) (t : Tm) (l : List Tm) : evalL E (t :: l) = match evalM E t with | none => none | some x => match evalL E l with | none => none | some m => some (x :: m) := by rw [evalL]
theorem evalL_len (E : List Bd) : ∀ (l : List Tm) (m : List V), evalL E l = some m → m.length = l.length
 | [], m, h => by rw [evalL_nil] at h; cases h; rfl
 | t :: l, m, h => by
  rw [evalL_cons] at h
  match he : evalM E t, h with
  | some x, h =>
   match hl : evalL E l, h with
   | some m', h =>
    cases h
    simp [evalL_len E l m' hl]
theorem evalL_snoc (E : List Bd) : ∀ (l : List Tm) (t : Tm), evalL E (l ++ [t]) = match evalL E l with | none => none | some m => match evalM E t with | none => none | some x => some (m ++ [x])
 | [], t => by
  rw [List.nil_append, evalL_cons, evalL_nil]
  cases evalM E t <;> rfl
 | a :: l, t => by
  rw [List.cons_append, evalL_cons, evalL_cons, evalL_snoc E l t]
  cases evalM E a with
  | none => rfl
  | some x =>
   cases evalL E l with
   | none => rfl
   | some m => cases evalM E t <;> rfl
theorem evalL_none (E : List Bd) (l : List Tm) (k : Nat) (h : evalL E (l.take k) = none) : evalL E l = none := by
 have : ∀ (a b : List Tm), evalL E a = none → evalL E (a ++ b) = none := by
  intro a b
  induction a with
  | nil => intro h; rw [evalL_nil] at h; cases h
  | cons t a ih =>
   intro h;rw [List.cons_append, evalL_cons];rw [evalL_cons] at h
   cases ht : evalM E t with
   | none => rfl
   | some x =>
    rw [ht] at h
    cases ha : evalL E a with
    | none => rw [ih ha]
    | some m => rw [ha] at h; cases h
 rw [← List.take_append_drop k l];exact this _ _ h
def withZ : List (Tm × V) → List Bd → List Bd
 | [], E => E
 | (t, x) :: l, E => withZ l (if t.kind = 1 ∧ lookZ t.name E = none then E ++ [(t.name, x)] else E)
def fitZ (E : List Bd) : List (Tm × V) → Bool
 | [] => true
 | (t, x) :: l => (match evalM E t with | none => false | some y => decide (cmpV y x = 0)) && fitZ E l
def matchZ (l : List Tm) (m : List V) (E : List Bd) : Option (List Bd) :=
 if l.length = m.length ∧ fitZ (withZ (l.zip m) E) (l.zip m) = true then some (withZ (l.zip m) E) else none
def EvPost (S : Nat → Prop) (r : Option V) (w : World) (e : Ending) (w' : World) : Prop :=
 ∃ c0 c1 c2 c3, e = .returned (.tuple #[.agg #[c0, c1, c2, c3], .bool r.isSome]) ∧ RepG (fun b => S b ∨ (w.heap.size ≤ b ∧ b < w'.heap.size)) w' (r.getD zeroV) c0 c1 c2 c3 ∧ Below w.heap.size w w'
end Go.Proofs.Ytjmnnjikmmglpaa
namespace Go.Proofs.Ytjmnnjikmmglpaa
theorem lookZ_append (s : ByteArray) : ∀ (E F : List Bd), lookZ s (E ++ F) = match lookZ s E with | some x => some x | none => lookZ s F
 | [], F => rfl
 | x :: E, F => by
  rw [List.cons_append, lookZ, lookZ]
  split
  ·rfl
  ·exact lookZ_append s E F
theorem withZ_cons (t : Tm) (x : V) (l : List (Tm × V)) (E : List Bd) : withZ ((t, x) :: l) E = withZ l (if t.kind = 1 ∧ lookZ t.name E = none then E ++ [(t.name, x)] else E) := rfl
theorem withZ_append : ∀ (a b : List (Tm × V)) (E : List Bd), withZ (a ++ b) E = withZ b (withZ a E)
 | [], _, _ => rfl
 | (t, x) :: a, b, E => by rw [List.cons_append, withZ_cons, withZ_cons, withZ_append a b]
theorem withZ_ext : ∀ (l : List (Tm × V)) (E : List Bd), ∃ F, withZ l E = E ++ F ∧ ∀ b ∈ F, (∃ p ∈ l, p.1.kind = 1 ∧ p.1.name = b.1) ∧ lookZ b.1 E = none
 | [], E => ⟨[], (List.append_nil E).symm, fun b hb => by cases hb⟩
 | (t, x) :: l, E => by
  rw [withZ_cons]
  by_cases h : t.kind = 1 ∧ lookZ t.name E = none
  ·rw [if_pos h]
   obtain ⟨F, hF, hb⟩ := withZ_ext l (E ++ [(t.name, x)]);refine ⟨(t.name, x) :: F, by rw [hF, List.append_assoc]; rfl, fun b hbm => ?_⟩;rcases List.mem_cons.1 hbm with rfl | hbm
   ·exact ⟨⟨(t, x), List.mem_cons_self, h.1, rfl⟩, h.2⟩
   ·obtain ⟨⟨p, hp, h1, h2⟩, h3⟩ := hb b hbm
    refine ⟨⟨p, List.mem_cons_of_mem _ hp, h1, h2⟩, ?_⟩;rw [lookZ_append] at h3
    cases hl : lookZ b.1 E with
    | none => rfl
    | some y => rw [hl] at h3; cases h3
  ·rw [if_neg h]
   obtain ⟨F, hF, hb⟩ := withZ_ext l E;refine ⟨F, hF, fun b hbm => ?_⟩;obtain ⟨⟨p, hp, h1, h2⟩, h3⟩ := hb b hbm;exact ⟨⟨p, List.mem_cons_of_mem _ hp, h1, h2⟩, h3⟩
theorem withZ_len (l : List (Tm × V)) (E : List Bd) : E.length ≤ (withZ l E).length ∧ (withZ l E).length ≤ E.length + l.length := by
 induction l generalizing E with
 | nil => exact ⟨Nat.le_refl _, by simp [withZ]⟩
 | cons p l ih =>
  obtain ⟨t, x⟩ := p;rw [withZ_cons]
  by_cases h : t.kind = 1 ∧ lookZ t.name E = none
  ·rw [if_pos h]
   have := ih (E ++ [(t.name, x)]);rw [List.length_append, List.length_singleton] at this;rw [List.length_cons]; omega
  ·rw [if_neg h]
   have := ih E;rw [List.length_cons]; omega
theorem fitZ_iff (E : List Bd) : ∀ (l : List (Tm × V)), fitZ E l = true ↔ ∀ p ∈ l, ∃ y, evalM E p.1 = some y ∧ cmpV y p.2 = 0
 | [] => by simp [fitZ]
 | (t, x) :: l => by
  rw [fitZ, Bool.and_eq_true, fitZ_iff E l]
  constructor
  ·rintro ⟨h1, h2⟩ p hp
   rcases List.mem_cons.1 hp with rfl | hp
   ·cases ht : evalM E t with
    | none => rw [ht] at h1; cases h1
    | some y => rw [ht] at h1; exact ⟨y, rfl, of_decide_eq_true h1⟩
   ·exact h2 p hp
  ·intro h
   refine ⟨?_, fun p hp => h p (List.mem_cons_of_mem _ hp)⟩;obtain ⟨y, h1, h2⟩ := h (t, x) List.mem_cons_self;rw [show evalM E t = some y from h1];exact decide_eq_true h2
theorem fitZ_snoc (E : List Bd) (l : List (Tm × V)) (t : Tm) (x : V) : fitZ E (l ++ [(t, x)]) = (fitZ E l && (match evalM E t with | none => false | some y => decide (cmpV y x = 0))) := by
 induction l with
 | nil =>
  show ((match evalM E t with | none => false | some y => decide (cmpV y x = 0)) && true) = (true && _)
  rw [Bool.true_and, Bool.and_true]
 | cons p l ih =>
  obtain ⟨u, z⟩ := p;rw [List.cons_append, fitZ, ih, fitZ, Bool.and_assoc]
theorem fitZ_take (E : List Bd) (l : List (Tm × V)) (k : Nat) (h : fitZ E (l.take k) = false) : fitZ E l = false := by
 rw [Bool.eq_false_iff] at h ⊢;intro hl;rw [Ne, fitZ_iff] at h;rw [fitZ_iff] at hl;exact h (fun p hp => hl p (List.mem_of_mem_take hp))
theorem matchZ_some {l : List Tm} {m : List V} {E a : List Bd} (h : matchZ l m E = some a) : l.length = m.length ∧ a = withZ (l.zip m) E ∧ ∀ p ∈ l.zip m, ∃ y, evalM a p.1 = some y ∧ cmpV y p.2 = 0 := by
 unfold matchZ at h
 split at h
 ·rename_i h1
  cases h
  exact ⟨h1.1, rfl, (fitZ_iff _ _).1 h1.2⟩
 ·cases h
end Go.Proofs.Ytjmnnjikmmglpaa
namespace Go.Proofs.Ytjmnnjikmmglpaa
open Go.RowKit
def BoxM (w : World) (k : Nat) (c0 c1 c2 c3 c4 c5 c6 : Value) : Prop := w.heap[k]? = some (.cells #[c0, c1, c2, c3, c4, c5, c6] 30 (0, 0))
theorem BoxM.cells {w : World} {k : Nat} {c0 c1 c2 c3 c4 c5 c6 : Value} (h : BoxM w k c0 c1 c2 c3 c4 c5 c6) : w.cell? ⟨k, 0, none⟩ = some c0 ∧ w.cell? ⟨k, 1, none⟩ = some c1 ∧ w.cell? ⟨k, 2, none⟩ = some c2 ∧ w.cell? ⟨k, 3, none⟩ = some c3 ∧ w.cell? ⟨k, 4, none⟩ = some c4 ∧ w.cell? ⟨k, 5, none⟩ = some c5 ∧ w.cell? ⟨k, 6, none⟩ = some c6 :=
 ⟨cell_of_block' h _ rfl, cell_of_block' h _ rfl, cell_of_block' h _ rfl, cell_of_block' h _ rfl, cell_of_block' h _ rfl, cell_of_block' h _ rfl, cell_of_block' h _ rfl⟩
theorem BoxM.lt {w : World} {k : Nat} {c0 c1 c2 c3 c4 c5 c6 : Value} (h : BoxM w k c0 c1 c2 c3 c4 c5 c6) : k < w.heap.size := (Array.getElem?_eq_some_iff.1 h).1
theorem BoxM.on {w w' : World} {k : Nat} {c0 c1 c2 c3 c4 c5 c6 : Value} (h : BoxM w k c0 c1 c2 c3 c4 c5 c6) (hb : Below w.heap.size w w') : BoxM w' k c0 c1 c2 c3 c4 c5 c6 := (hb.block k h.lt).trans h
theorem boxM_new (w : World) (c0 c1 c2 c3 c4 c5 c6 : Value) : BoxM (w.alloc (.cells #[c0, c1, c2, c3, c4, c5, c6] 30)) w.heap.size c0 c1 c2 c3 c4 c5 c6 := alloc_new' _ _
end Go.Proofs.Ytjmnnjikmmglpaa
namespace Go.Proofs.Ytjmnnjikmmglpaa
open Go.RowKit
theorem lg_of_slg {S : Nat → Prop} {w : World} {l : List V} {v : Value} (h : SlG S w 4 56 (fun x c => RepG S w x (c 0) (c 1) (c 2) (c 3)) l v) : RepLG S w l v := by
 obtain ⟨a, b, o, cap, e, h1, h2, h3, h4, h5⟩ := h
 exact ⟨a, b, o, cap, e, h1, h2, h3, h4, fun i hi => by
  obtain ⟨c, hc, hr⟩ := h5 i hi
  exact ⟨c 0, c 1, c 2, c 3, hc 0 (by omega), hc 1 (by omega), hc 2 (by omega), hc 3 (by omega), hr⟩⟩
end Go.Proofs.Ytjmnnjikmmglpaa
namespace Go.Proofs.Ytjmnnjikmmglpaa
open Go.RowKit
theorem flat_rep (S : Nat → Prop) (w : World) (k n : Int) (s : ByteArray) (hk : I64 k) (hn : I64 n) (hs : s.size ≤ maxLen) : RepG S w (.mk k n s []) (.int .i64 k) (.int .i64 n) (.string s) (.slice none 0 0) :=
 repG_mk.2 ⟨rfl, rfl, rfl, hk, hn, hs, none, 0, 0, 0, rfl, Nat.le_refl _, by simp, fun h => by omega, fun h => by simp at h, fun i hi => by simp at hi⟩
end Go.Proofs.Ytjmnnjikmmglpaa
namespace Go.Proofs.Ytjmnnjikmmglpaa
open Go.RowKit
def BytesAt (w : World) (g : Nat) (l : List UInt8) : Prop :=
 ∃ cur lo hi, w.heap[g]? = some (.cells cur 5 (lo, hi)) ∧ cur.size ≤ lo ∧ l.length ≤ cur.size ∧ ∀ j (h : j < l.length), cur[j]? = some (.int .u8 (l[j].toNat : Int))
theorem BytesAt.cell {w : World} {g : Nat} {l : List UInt8} (h : BytesAt w g l) (j : Nat) (hj : j < l.length) : w.cell? ⟨g, j, none⟩ = some (.int .u8 (l[j].toNat : Int)) := by
 obtain ⟨cur, lo, hi, h1, h2, h3, h4⟩ := h;simp [World.cell?, h1, h4 j hj]
theorem BytesAt.free {w : World} {g : Nat} {l : List UInt8} (h : BytesAt w g l) (j : Nat) (hj : j < l.length) : w.frozen? ⟨g, j, none⟩ = false := by
 obtain ⟨cur, lo, hi, h1, h2, h3, h4⟩ := h;simp only [World.frozen?, h1]
 simp; omega
theorem BytesAt.lt {w : World} {g : Nat} {l : List UInt8} (h : BytesAt w g l) : g < w.heap.size := by
 obtain ⟨cur, lo, hi, h1, _⟩ := h;exact (Array.getElem?_eq_some_iff.1 h1).1
theorem heap_set_any (w : World) (g i : Nat) (cs : Array Value) (t : TypeId) (fz : Nat × Nat) (v : Value) (hg : w.heap[g]? = some (.cells cs t fz)) :
  (w.setCell ⟨g, i, none⟩ v).heap[g]? = some (.cells (cs.setIfInBounds i v) t fz) := by
 rw [setCell_eq_setRow w g i cs t fz v hg];exact setRow_heap w g cs _ t _ hg
theorem BytesAt.set {w : World} {g : Nat} {l : List UInt8} (h : BytesAt w g l) (i : Nat) (c : UInt8) : BytesAt (w.setCell ⟨g, i, none⟩ (.int .u8 (c.toNat : Int))) g (l.set i c) := by
 obtain ⟨cur, lo, hi, h1, h2, h3, h4⟩ := h;refine ⟨_, lo, hi, heap_set_any w g i cur _ _ _ h1, by simpa using h2, by simpa using h3, fun j hj => ?_⟩;simp only [List.length_set] at hj
 rw [Array.getElem?_setIfInBounds, List.getElem_set]
 by_cases e : i = j
 ·rw [if_pos e, if_pos (by omega), if_pos e]
 ·rw [if_neg e, if_neg e]; exact h4 j hj
theorem bytes_new (w : World) (s : ByteArray) : BytesAt (Lib.bytesWorld w 5 s) w.heap.size s.data.toList := by
 refine ⟨_, _, _, Lib.bytesWorld_at_new w _ s, Nat.le_refl _, ?_, fun j hj => ?_⟩
 ·simp [Lib.bytesCells]
 ·have hj' : j < s.size := by simpa using hj
  have := Lib.bytesWorld_cell w 5 s j hj';rw [World.cell?, Lib.bytesWorld_at_new] at this
  simpa [List.getD, hj'] using this
theorem bytes_below (w : World) (s : ByteArray) : Below w.heap.size w (Lib.bytesWorld w 5 s) :=
 ⟨by simp [Lib.bytesWorld, World.freeze]; rfl, by simp [Lib.bytesWorld, World.freeze], by simp [Lib.bytesWorld, World.freeze]; rfl, by rw [Lib.bytesWorld_size]; omega, fun k hk => Lib.bytesWorld_at_old w _ s k hk⟩
theorem conv_to (w : World) (s : ByteArray) : (convert 9 48 (.string s)).run Try.prog w = .ok (.slice (some ⟨w.heap.size, 0, none⟩) s.size (grownCap w s.size 0 5)) (Lib.bytesWorld w 5 s) :=
 Lib.run_convert_string_bytes w _ _ _ s Try.underlying9 Try.underlying48 Try.underlying5
theorem conv_back (w : World) (g cap : Nat) (l : List UInt8) (h : BytesAt w g l) : (convert 48 9 (.slice (some ⟨g, 0, none⟩) l.length cap)).run Try.prog w = .ok (.string ⟨l.toArray⟩) w :=
 run_convert_bytes_back w _ _ _ ⟨g, 0, none⟩ cap l Try.underlying48 Try.underlying5 Try.underlying9 (fun j hj => by rw [show ((⟨g, 0, none⟩ : Addr).add j) = ⟨g, j, none⟩ from by unfold Addr.add; split <;> simp_all]; exact h.cell j hj)
end Go.Proofs.Ytjmnnjikmmglpaa
namespace Go.Proofs.Ytjmnnjikmmglpaa
open Go.RowKit
def nameByte (c : UInt8) : UInt8 := if c.toNat % 37 < 26 then UInt8.ofNat (97 + c.toNat % 37) else if c.toNat % 37 < 36 then UInt8.ofNat (48 + c.toNat % 37 - 26) else 95
def rawName (s : ByteArray) : List UInt8 := 110 :: s.data.toList.take 15
def nameOf (s : ByteArray) : List UInt8 := 110 :: (s.data.toList.take 15).map nameByte
def nameTo (s : ByteArray) (i : Nat) : List UInt8 := (nameOf s).take i ++ (rawName s).drop i
theorem rawName_length (s : ByteArray) : (rawName s).length = 1 + min s.size 15 := by simp [rawName]; omega
theorem nameOf_length (s : ByteArray) : (nameOf s).length = 1 + min s.size 15 := by simp [nameOf]; omega
theorem nameTo_length (s : ByteArray) (i : Nat) : (nameTo s i).length = 1 + min s.size 15 := by
 simp only [nameTo, List.length_append, List.length_take, List.length_drop, rawName_length, nameOf_length]; omega
theorem nameTo_one (s : ByteArray) : nameTo s 1 = rawName s := by simp [nameTo, nameOf, rawName]
theorem nameTo_end (s : ByteArray) : nameTo s (1 + min s.size 15) = nameOf s := by
 rw [nameTo, List.take_of_length_le (by rw [nameOf_length]; omega), List.drop_of_length_le (by rw [rawName_length]; omega), List.append_nil]
theorem nameTo_get (s : ByteArray) (i : Nat) (_h1 : 1 ≤ i) (h : i < (nameTo s i).length) (h' : i < (rawName s).length) : (nameTo s i)[i] = (rawName s)[i] := by
 have e : ((nameOf s).take i).length = i := by rw [List.length_take, nameOf_length]; rw [rawName_length] at h'; omega
 simp only [nameTo]
 rw [List.getElem_append_right (by omega)];simp [e]
theorem nameTo_succ (s : ByteArray) (i : Nat) (h1 : 1 ≤ i) (h' : i < (rawName s).length) : nameTo s (i + 1) = (nameTo s i).set i (nameByte (rawName s)[i]) := by
 have hn : i < (nameOf s).length := by rw [nameOf_length]; rw [rawName_length] at h'; exact h'
 have e : ((nameOf s).take i).length = i := by rw [List.length_take]; omega
 have hget : (nameOf s)[i] = nameByte (rawName s)[i] := by
  match i, h1 with
  | i + 1, _ => simp [nameOf, rawName]
 rw [nameTo, nameTo, List.set_append_right _ _ (by omega), e, Nat.sub_self, List.drop_eq_getElem_cons h', List.set_cons_zero, List.take_succ_eq_append_getElem hn, hget];simp
theorem nameByte_small (c : UInt8) (h : c.toNat % 37 < 26) : ((nameByte c).toNat : Int) = 97 + (c.toNat : Int) % 37 := by
 rw [nameByte, if_pos h, UInt8.toNat_ofNat', Nat.mod_eq_of_lt (by omega)]; omega
theorem nameByte_digit (c : UInt8) (h : ¬ c.toNat % 37 < 26) (h2 : c.toNat % 37 < 36) : ((nameByte c).toNat : Int) = 48 + (c.toNat : Int) % 37 - 26 := by
 rw [nameByte, if_neg h, if_pos h2, UInt8.toNat_ofNat', Nat.mod_eq_of_lt (by omega)]; omega
theorem nameByte_low (c : UInt8) (h : ¬ c.toNat % 37 < 26) (h2 : ¬ c.toNat % 37 < 36) : nameByte c = 95 := by rw [nameByte, if_neg h, if_neg h2]
set_option maxRecDepth 100000 in
set_option maxHeartbeats 2000000 in
theorem lawName_any (s : ByteArray) (w : World) (hs : s.size ≤ maxLen) :
  Calls Try.prog 46 #[.string s] w fun e w' => e = .returned (.string ⟨(nameOf s).toArray⟩) ∧ Below w.heap.size w w' := by
 unfold maxLen at hs;have hconv := conv_to w;go_enter Try.func46, Try.ntmps46
 go_wp2_with fail
 have hraw : (({ data := #[110] } : ByteArray) ++ s.extract 0 (min (s.size : Int) 15).toNat).data.toList = rawName s := by
  rw [rawName];have e : (min (s.size : Int) 15).toNat = min s.size 15 := by omega
  rw [e, ByteArray.data_append, ByteArray.data_extract];simp
  omega
 have hlen : 1 + min (min (s.size : Int) 15).toNat s.size = (rawName s).length := by rw [rawName_length]; omega
 have hby := bytes_new w (({ data := #[110] } : ByteArray) ++ s.extract 0 (min (s.size : Int) 15).toNat);have hbe := bytes_below w (({ data := #[110] } : ByteArray) ++ s.extract 0 (min (s.size : Int) 15).toNat);rw [hraw] at hby;generalize Lib.bytesWorld w 5 (({ data := #[110] } : ByteArray) ++ s.extract 0 (min (s.size : Int) 15).toNat) = w1 at *;generalize grownCap w (1 + min (min (s.size : Int) 15).toNat s.size) 0 5 = cap at *;generalize 1 + min (min (s.size : Int) 15).toNat s.size = len at *;have hl16 : len ≤ 16 := by rw [hlen, rawName_length]; omega
 have HLEN := Lib.hid hlen;rw [← nameTo_one] at hby;have hl1 : 1 ≤ len := by rw [hlen, rawName_length]; omega
 clear hlen hraw hconv;go_loopw [4] (fun i wr => ∃ k : Nat, 1 ≤ k ∧ k ≤ len ∧ i = .int .i64 k ∧ BytesAt wr w.heap.size (nameTo s k) ∧ Below w.heap.size w wr) (fun i _ => len - (intOf i).toNat)
 case atStart => exact ⟨1, Nat.le_refl _, hl1, rfl, hby, hbe⟩
 case round =>
  obtain ⟨k, hk1, hk2, rfl, hb, hbel⟩ := hrel;clear hby hbe
  by_cases hlt : k < len
  ·have hkr : k < (rawName s).length := by rw [← HLEN.out]; exact hlt
   have hkn : k < (nameTo s k).length := by rw [nameTo_length, ← rawName_length]; exact hkr
   have hc := hb.cell k hkn;have hf := hb.free k hkn;rw [nameTo_get s k hk1 hkn hkr] at hc;have HS := Lib.hid (nameTo_succ s k hk1 hkr);have HB := Lib.hid (hb.set k (nameByte (rawName s)[k])); clear hb
   generalize (rawName s)[k] = c at *;have hc255 : (c.toNat : Int) ≤ 255 := by have := c.toNat_lt; omega
   have hbel' := fun v => hbel.setCell (p := ⟨w.heap.size, k, none⟩) (Nat.le_refl _) v
   have HBEL := Lib.hid hbel'; clear hbel'
   by_cases h1 : c.toNat % 37 < 26
   ·have HN := Lib.hid (nameByte_small c h1)
    have t1 : (c.toNat : Int) % 37 < 26 := by omega
    go_wp2_with fail
    go_roundw
    case rel => exact ⟨k + 1, by omega, by omega, by go_num, by rw [HS.out]; have := HB.out; rw [HN.out] at this; exact this, HBEL.out _⟩
    case measure => simp [intOf]; omega
   ·by_cases h2 : c.toNat % 37 < 36
    ·have HN := Lib.hid (nameByte_digit c h1 h2)
     have t1 : ¬ (c.toNat : Int) % 37 < 26 := by omega
     have t2 : (c.toNat : Int) % 37 < 36 := by omega
     go_wp2_with fail
     go_roundw
     case rel => exact ⟨k + 1, by omega, by omega, by go_num, by rw [HS.out]; have := HB.out; rw [HN.out] at this; exact this, HBEL.out _⟩
     case measure => simp [intOf]; omega
    ·have HN := Lib.hid (nameByte_low c h1 h2)
     have t1 : ¬ (c.toNat : Int) % 37 < 26 := by omega
     have t2 : ¬ (c.toNat : Int) % 37 < 36 := by omega
     go_wp2_with fail
     go_roundw
     case rel => exact ⟨k + 1, by omega, by omega, by go_num, by rw [HS.out]; have := HB.out; rw [HN.out] at this; rw [HN.out]; exact this, HBEL.out _⟩
     case measure => simp [intOf]; omega
  ·have hke : k = len := by omega
   have hnb : BytesAt wr w.heap.size (nameOf s) := by rw [hke, HLEN.out, rawName_length, nameTo_end] at hb; exact hb
   have hback := conv_back wr w.heap.size cap (nameOf s) hnb;have hnl : (nameOf s).length = len := by rw [HLEN.out, nameOf_length, rawName_length]
   rw [hnl] at hback;clear hnl hb hnb hke;go_wp2_with fail
   go_ret
   exact ⟨rfl, hbel⟩
end Go.Proofs.Ytjmnnjikmmglpaa
namespace Go.Proofs.Ytjmnnjikmmglpaa
open Go.RowKit
def pickZ (c n : Int) : Int := (if c < 0 then -(c + 1) else c) % n
theorem pickZ_bd (c n : Int) (h : 0 < n) : 0 ≤ pickZ c n ∧ pickZ c n < n := ⟨Int.emod_nonneg _ (by omega), Int.emod_lt_of_pos _ h⟩
theorem ret_int' {k : IntKind} {a b : Int} (h : a = b) : Ending.returned (.int k a) = .returned (.int k b) := by rw [h]
end Go.Proofs.Ytjmnnjikmmglpaa
namespace Go.Proofs.Ytjmnnjikmmglpaa
open Go.RowKit
theorem pick_any (c n : Int) (w : World) (hc : I64 c) (hn : 1 ≤ n) (hn2 : n ≤ 9223372036854775807) :
  Calls Try.prog 53 #[.int .i64 c, .int .i64 n] w fun e w' => e = .returned (.int .i64 (pickZ c n)) ∧ w = w' := by
 obtain ⟨h1, h2⟩ := hc
 by_cases h : c < 0
 ·have HF : Hid (pickZ c n = (-(c + 1)) % n) := by show _ = _; rw [pickZ, if_pos h]
  have h3 : 0 ≤ -(c + 1) := by omega
  have hne : (n == 0) = false := beq_eq_false_iff_ne.2 (by omega);go_enter Try.func53, Try.ntmps53
  go_wp2_with fail
  go_ret
  refine ⟨?_, rfl⟩;rw [HF.out];refine ret_int' ?_;rw [← Int.neg_tmod, Int.tmod_eq_emod_of_nonneg h3]
 ·have HF : Hid (pickZ c n = c % n) := by show _ = _; rw [pickZ, if_neg h]
  have h3 : 0 ≤ c := by omega
  have hne : (n == 0) = false := beq_eq_false_iff_ne.2 (by omega);go_enter Try.func53, Try.ntmps53
  go_wp2_with fail
  go_ret
  refine ⟨?_, rfl⟩;rw [HF.out];rfl
end Go.Proofs.Ytjmnnjikmmglpaa
