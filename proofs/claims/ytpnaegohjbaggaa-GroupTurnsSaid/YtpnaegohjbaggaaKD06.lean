/-
  Order, RoSort, RoMerge
-/
import Derived.Test.YtpnaegohjbaggaaKD05
import Derived.Test.YtpnaegohjbaggaaKD01
import Derived.Deep.RegionHeld3
import Derived.Deep.RegionWith
namespace Go.Proofs.Ytpnaegohjbaggaa
structure Ord3 {α : Type} (f : α → α → Int) (a b c : α) : Prop where
 rng : f a b = -1 ∨ f a b = 0 ∨ f a b = 1
 sym : f b a = - f a b
 eqv : f a b = 0 → f b c = f a c
 lt : f a b < 0 → f b c ≤ 0 → f a c < 0
 gt : 0 < f a b → 0 ≤ f b c → 0 < f a c
theorem ord_int (a b c : Int) : Ord3 Lib.compareInt a b c := by
 unfold Lib.compareInt
 constructor
 ·(repeat' split) <;> first | exact Or.inl rfl | exact Or.inr (Or.inl rfl) | exact Or.inr (Or.inr rfl)
 ·(repeat' split) <;> omega
 ·intro h
  have : a = b := by (repeat' split at h) <;> omega
  subst this; rfl
 ·intro h1 h2; (repeat' split at h1) <;> (repeat' split at h2) <;> (repeat' split) <;> omega
 ·intro h1 h2; (repeat' split at h1) <;> (repeat' split at h2) <;> (repeat' split) <;> omega
def lex {α : Type} (f : α → α → Int) : List α → List α → Int
 | [], [] => 0
 | [], _ :: _ => -1
 | _ :: _, [] => 1
 | x :: l, y :: m => if f x y ≠ 0 then f x y else lex f l m
theorem ord_lex {α : Type} (f : α → α → Int) : ∀ (l : List α), (∀ x, x ∈ l → ∀ y z, Ord3 f x y z) → ∀ m k, Ord3 (lex f) l m k
 | [], _, [], [] => ⟨by simp [lex], by simp [lex], by simp [lex], by simp [lex], by simp [lex]⟩
 | [], _, [], _ :: _ => ⟨by simp [lex], by simp [lex], by simp [lex], by simp [lex], by simp [lex]⟩
 | [], _, _ :: _, [] => ⟨by simp [lex], by simp [lex], by simp [lex], by simp [lex], by simp [lex]⟩
 | [], _, _ :: _, _ :: _ => ⟨by simp [lex], by simp [lex], by simp [lex], by simp [lex], by simp [lex]⟩
 | _ :: _, _, [], [] => ⟨by simp [lex], by simp [lex], by simp [lex], by simp [lex], by simp [lex]⟩
 | _ :: _, _, [], _ :: _ => ⟨by simp [lex], by simp [lex], by simp [lex], by simp [lex], by simp [lex]⟩
 | x :: l, h, y :: m, [] => by
  have h1 := h x (by simp) y x;have h2 := ord_lex f l (fun z hz => h z (by simp [hz])) m [];have r1 := h1.rng; have s1 := h1.sym; have r2 := h2.rng; have s2 := h2.sym
  constructor <;> simp only [lex]
  ·split <;> omega
  ·rw [s1, s2]; split <;> split <;> omega
  ·intro _; trivial
  ·intro _ h; omega
  ·intro _ _; omega
 | x :: l, h, y :: m, z :: k => by
  have h1 := h x (by simp) y z;have h2 := ord_lex f l (fun z hz => h z (by simp [hz])) m k;have hz := h x (by simp) z y;obtain ⟨r1, s1, e1, l1, g1⟩ := h1;obtain ⟨r2, s2, e2, l2, g2⟩ := h2;have rz := hz.rng;have ez := hz.eqv;have lz := hz.lt;have gz := hz.gt
  constructor <;> simp only [lex]
  ·split <;> omega
  ·rw [s1, s2]; split <;> split <;> omega
  ·intro h
   by_cases e : f x y = 0
   ·rw [if_neg (by omega)] at h
    rw [e1 e, e2 h]
   ·rw [if_pos e] at h; omega
  ·intro h h'
   by_cases e : f x y = 0
   ·rw [if_neg (by omega)] at h
    rw [e1 e] at h'
    by_cases e' : f x z = 0
    ·rw [if_neg (by omega)] at h' ⊢; exact l2 h h'
    ·rw [if_pos e'] at h' ⊢; omega
   ·rw [if_pos e] at h
    by_cases e' : f y z = 0
    ·have := l1 h (by omega)
     rw [if_pos (by omega)]; exact this
    ·rw [if_pos e'] at h'
     have := l1 h h';rw [if_pos (by omega)]; exact this
  ·intro h h'
   by_cases e : f x y = 0
   ·rw [if_neg (by omega)] at h
    rw [e1 e] at h'
    by_cases e' : f x z = 0
    ·rw [if_neg (by omega)] at h' ⊢; exact g2 h h'
    ·rw [if_pos e'] at h' ⊢; omega
   ·rw [if_pos e] at h
    by_cases e' : f y z = 0
    ·have := g1 h (by omega)
     rw [if_pos (by omega)]; exact this
    ·rw [if_pos e'] at h'
     have := g1 h h';rw [if_pos (by omega)]; exact this
def cmpByte (a b : UInt8) : Int := Lib.compareInt a.toNat b.toNat
theorem cmpS_lex_aux : ∀ (x y : List UInt8), (if Op.bytesLess x y = true then -1 else if (x == y) = true then 0 else 1) = lex cmpByte x y
 | [], [] => by simp [Op.bytesLess, lex]
 | [], _ :: _ => by simp [Op.bytesLess, lex]
 | _ :: _, [] => by simp [Op.bytesLess, lex]
 | a :: x, b :: y => by
  have ih := cmpS_lex_aux x y;simp only [lex, Op.bytesLess]
  by_cases h1 : a < b
  ·have h1' : a.toNat < b.toNat := by simpa [UInt8.lt_iff_toNat_lt] using h1
   have hc : cmpByte a b = -1 := by unfold cmpByte Lib.compareInt; rw [if_pos (by omega)]
   simp [h1, hc]
  ·have h1' : ¬ a.toNat < b.toNat := by simpa [UInt8.lt_iff_toNat_lt] using h1
   by_cases h2 : a = b
   ·subst h2
    have hc : cmpByte a a = 0 := by unfold cmpByte Lib.compareInt; rw [if_neg (by omega), if_neg (by omega)]
    simp only [h1, decide_false, Bool.false_or, beq_self_eq_true, Bool.true_and, hc, ne_eq, not_true, if_false, List.cons_beq_cons]
    exact ih
   ·have h3 : a.toNat ≠ b.toNat := fun e => h2 (UInt8.toNat_inj.1 e)
    have hc : cmpByte a b = 1 := by unfold cmpByte Lib.compareInt; rw [if_neg (by omega), if_pos (by omega)]
    simp [h1, h2, hc]
theorem cmpS_lex (a b : ByteArray) : cmpS a b = lex cmpByte a.toList b.toList := cmpS_lex_aux _ _
theorem ord_bytes (a b c : ByteArray) : Ord3 cmpS a b c := by
 have h := ord_lex cmpByte a.toList (fun x _ y z => by
  have := ord_int x.toNat y.toNat z.toNat
  exact ⟨this.rng, this.sym, this.eqv, this.lt, this.gt⟩) b.toList c.toList
 constructor <;> simp only [cmpS_lex]
 ·exact h.rng
 ·exact h.sym
 ·exact h.eqv
 ·exact h.lt
 ·exact h.gt
theorem cmpL_lex : ∀ (l m : List V), cmpL l m = lex cmpV l m
 | [], [] => by simp [cmpL, lex]
 | [], _ :: _ => by simp [cmpL, lex]
 | _ :: _, [] => by simp [cmpL, lex]
 | x :: l, y :: m => by simp only [cmpL, lex]; rw [cmpL_lex l m]
theorem cmpV_mk (k n : Int) (s : ByteArray) (l : List V) (k' n' : Int) (s' : ByteArray) (l' : List V) : cmpV (.mk k n s l) (.mk k' n' s' l') =
  if Lib.compareInt k k' ≠ 0 then Lib.compareInt k k' else if k = 1 then Lib.compareInt n n' else if k = 2 ∨ k = 3 then cmpS s s' else if k = 4 then lex cmpV l l' else 0 := by
 rw [cmpV, cmpL_lex]
 by_cases e : k = k'
 ·subst e; simp [Lib.compareInt]
 ·have : Lib.compareInt k k' ≠ 0 := by unfold Lib.compareInt; (repeat' split) <;> omega
  rw [if_pos e, if_pos this]
theorem ord_value (a b c : V) : Ord3 cmpV a b c := by
 match a, b, c with
 | .mk k n s l, .mk k2 n2 s2 l2, .mk k3 n3 s3 l3 =>
 have hl := ord_lex cmpV l (fun x hx y z => ord_value x y z) l2 l3;have hi := ord_int n n2 n3;have hs := ord_bytes s s2 s3;have hk := ord_int k k2 k3
 by_cases e : k = k2
 ·subst e
  have h0 : Lib.compareInt k k = 0 := by simp [Lib.compareInt]
  by_cases e3 : k = k3
  ·subst e3
   by_cases f1 : k = 1
   ·have E : ∀ n s l n' s' l', cmpV (.mk k n s l) (.mk k n' s' l') = Lib.compareInt n n' := fun n s l n' s' l' => by rw [cmpV_mk, if_neg (by omega), if_pos f1]
    constructor <;> simp only [E]
    ·exact hi.rng
    ·exact hi.sym
    ·exact hi.eqv
    ·exact hi.lt
    ·exact hi.gt
   by_cases f2 : k = 2 ∨ k = 3
   ·have E : ∀ n s l n' s' l', cmpV (.mk k n s l) (.mk k n' s' l') = cmpS s s' := fun n s l n' s' l' => by rw [cmpV_mk, if_neg (by omega), if_neg f1, if_pos f2]
    constructor <;> simp only [E]
    ·exact hs.rng
    ·exact hs.sym
    ·exact hs.eqv
    ·exact hs.lt
    ·exact hs.gt
   by_cases f4 : k = 4
   ·have E : ∀ n s l n' s' l', cmpV (.mk k n s l) (.mk k n' s' l') = lex cmpV l l' := fun n s l n' s' l' => by rw [cmpV_mk, if_neg (by omega), if_neg f1, if_neg f2, if_pos f4]
    constructor <;> simp only [E]
    ·exact hl.rng
    ·exact hl.sym
    ·exact hl.eqv
    ·exact hl.lt
    ·exact hl.gt
   ·have E : ∀ n s l n' s' l', cmpV (.mk k n s l) (.mk k n' s' l') = 0 := fun n s l n' s' l' => by rw [cmpV_mk, if_neg (by omega), if_neg f1, if_neg f2, if_neg f4]
    constructor <;> simp only [E] <;> simp
  ·have h3 : Lib.compareInt k k3 ≠ 0 := by unfold Lib.compareInt; (repeat' split) <;> omega
   have r0 : cmpV (.mk k n s l) (.mk k n2 s2 l2) = -1 ∨ cmpV (.mk k n s l) (.mk k n2 s2 l2) = 0 ∨ cmpV (.mk k n s l) (.mk k n2 s2 l2) = 1 := by
    simp only [cmpV_mk, h0, ne_eq, not_true, if_false]
    (repeat' split) <;> first | exact hi.rng | exact hs.rng | exact hl.rng | simp
   refine ⟨r0, ?_, ?_, ?_, ?_⟩
   ·simp only [cmpV_mk, h0, ne_eq, not_true, if_false]
    (repeat' split) <;> first | exact hi.sym | exact hs.sym | exact hl.sym | simp
   ·intro _; simp only [cmpV_mk, h3, ne_eq, not_false_iff, if_true]
   ·intro _ h; rw [cmpV_mk, if_pos h3] at h ⊢; omega
   ·intro _ h; rw [cmpV_mk, if_pos h3] at h ⊢; omega
 ·have h2 : Lib.compareInt k k2 ≠ 0 := by unfold Lib.compareInt; (repeat' split) <;> omega
  have h2' : Lib.compareInt k2 k ≠ 0 := by rw [hk.sym]; omega
  refine ⟨by rw [cmpV_mk, if_pos h2]; exact hk.rng, by rw [cmpV_mk, if_pos h2', cmpV_mk, if_pos h2]; exact hk.sym, ?_, ?_, ?_⟩
  ·intro h; rw [cmpV_mk, if_pos h2] at h; exact absurd h h2
  ·intro h h'
   rw [cmpV_mk, if_pos h2] at h
   by_cases e3 : k2 = k3
   ·subst e3; rw [cmpV_mk, if_pos h2]; exact h
   ·have h3 : Lib.compareInt k2 k3 ≠ 0 := by unfold Lib.compareInt; (repeat' split) <;> omega
    rw [cmpV_mk, if_pos h3] at h';have := hk.lt h h';rw [cmpV_mk, if_pos (by omega)]; exact this
  ·intro h h'
   rw [cmpV_mk, if_pos h2] at h
   by_cases e3 : k2 = k3
   ·subst e3; rw [cmpV_mk, if_pos h2]; exact h
   ·have h3 : Lib.compareInt k2 k3 ≠ 0 := by unfold Lib.compareInt; (repeat' split) <;> omega
    rw [cmpV_mk, if_pos h3] at h';have := hk.gt h h';rw [cmpV_mk, if_pos (by omega)]; exact this
 termination_by SizeOf.sizeOf a
 decreasing_by
  have := List.sizeOf_lt_of_mem hx;simp only [V.mk.sizeOf_spec]
  omega
end Go.Proofs.Ytpnaegohjbaggaa
namespace Go.Proofs.Ytpnaegohjbaggaa
open Go.RowKit Go.Sort
def IsOrd {α : Type} (f : α → α → Int) : Prop := ∀ a b c, Ord3 f a b c
theorem ord_or {α : Type} {f g : α → α → Int} (hf : IsOrd f) (hg : IsOrd g) : IsOrd (fun a b => if f a b ≠ 0 then f a b else g a b) := fun a b c => by
 obtain ⟨r1, s1, e1, l1, g1⟩ := hf a b c;obtain ⟨r2, s2, e2, l2, g2⟩ := hg a b c;have hz := hf a c b;have rz := hz.rng
 constructor
 ·split <;> omega
 ·show (if f b a ≠ 0 then f b a else g b a) = _
  rw [s1, s2]; split <;> split <;> omega
 ·intro h
  by_cases h1 : f a b = 0
  ·have h3 := e1 h1
   rw [if_neg (by omega)] at h;have h4 := e2 h
   show (if f b c ≠ 0 then f b c else g b c) = if f a c ≠ 0 then f a c else g a c
   rw [h3, h4]
  ·rw [if_pos h1] at h; omega
 ·intro h h'
  by_cases h1 : f a b = 0
  ·have h3 := e1 h1
   rw [if_neg (by omega)] at h
   show (if f a c ≠ 0 then f a c else g a c) < 0
   have h'' : (if f b c ≠ 0 then f b c else g b c) ≤ 0 := h';rw [h3] at h''
   split
   ·rw [if_pos (by assumption)] at h''; omega
   ·rw [if_neg (by assumption)] at h''; exact l2 h h''
  ·rw [if_pos h1] at h
   have h'' : (if f b c ≠ 0 then f b c else g b c) ≤ 0 := h'
   have h4 : f b c ≤ 0 := by
    by_cases h5 : f b c = 0
    ·omega
    ·rw [if_pos h5] at h''; exact h''
   have h6 := l1 h h4
   show (if f a c ≠ 0 then f a c else g a c) < 0
   rw [if_pos (by omega)]; exact h6
 ·intro h h'
  by_cases h1 : f a b = 0
  ·have h3 := e1 h1
   rw [if_neg (by omega)] at h
   show 0 < (if f a c ≠ 0 then f a c else g a c)
   have h'' : 0 ≤ (if f b c ≠ 0 then f b c else g b c) := h';rw [h3] at h''
   split
   ·rw [if_pos (by assumption)] at h''; omega
   ·rw [if_neg (by assumption)] at h''; exact g2 h h''
  ·rw [if_pos h1] at h
   have h'' : 0 ≤ (if f b c ≠ 0 then f b c else g b c) := h'
   have h4 : 0 ≤ f b c := by
    by_cases h5 : f b c = 0
    ·omega
    ·rw [if_pos h5] at h''; exact h''
   have h6 := g1 h h4
   show 0 < (if f a c ≠ 0 then f a c else g a c)
   rw [if_pos (by omega)]; exact h6
theorem ord_on {α β : Type} {f : α → α → Int} (hf : IsOrd f) (p : β → α) : IsOrd (fun a b => f (p a) (p b)) := fun a b c =>
 ⟨(hf _ _ (p c)).rng, (hf _ _ (p c)).sym, (hf (p a) (p b) (p c)).eqv, (hf (p a) (p b) (p c)).lt, (hf (p a) (p b) (p c)).gt⟩
theorem ord_back {α : Type} {f : α → α → Int} (hf : IsOrd f) : IsOrd (fun a b => f b a) := fun a b c => by
 have s1 := (hf a b c).sym;have s2 := (hf a c b).sym;have s3 := (hf b c a).sym;have h := hf a b c;refine ⟨(hf b a c).rng, (hf b a c).sym, fun h1 => ?_, fun h1 h2 => ?_, fun h1 h2 => ?_⟩
 ·have := h.eqv (by omega); show f c b = f c a; omega
 ·have := h.gt (by omega) (show 0 ≤ f b c by have h2' : f c b ≤ 0 := h2; omega); show f c a < 0; omega
 ·have := h.lt (by omega) (show f b c ≤ 0 by have h2' : 0 ≤ f c b := h2; omega); show 0 < f c a; omega
theorem ord_swo {α : Type} {f : α → α → Int} (hf : IsOrd f) : SWO (ltOf f) where
 irrefl x := by have := (hf x x x).sym; unfold ltOf; exact decide_eq_false (by omega)
 trans x y z h1 h2 := by
  unfold ltOf at *;exact decide_eq_true ((hf x y z).lt (of_decide_eq_true h1) (Int.le_of_lt (of_decide_eq_true h2)))
 ntrans x y z h1 h2 := by
  unfold ltOf at *;have h1' := of_decide_eq_false h1;have h2' := of_decide_eq_false h2;refine decide_eq_false ?_
  by_cases h0 : f x y = 0
  ·have := (hf x y z).eqv h0; omega
  ·have := (hf x y z).gt (by omega) (by omega); omega
theorem ord_cmpRo : IsOrd cmpRo := ord_or (ord_on (fun a b c => ord_bytes a b c) Ro.name) (ord_on (f := cmpL) (fun a b c => by
 have h := ord_lex cmpV a (fun x _ y z => ord_value x y z) b c;have e : (lex cmpV : List V → List V → Int) = cmpL := by funext l m; exact (cmpL_lex l m).symm
 rw [e] at h; exact h) Ro.args)
abbrev Cel := Ro × Value
def celOf (x : Cel) : List Value := [.string x.1.name, x.2, .int .i64 x.1.stamp]
theorem celOf_len (x : Cel) : (celOf x).length = 3 := rfl
def CelAt (cur : Array Value) (L : List Cel) : Prop := L.length * 3 ≤ cur.size ∧ ∀ j (h : j < L.length) (t : Nat), t < 3 → cur[j * 3 + t]? = (celOf L[j])[t]?
structure Beside (g : Nat) (w w' : World) : Prop where
 os : w'.os = w.os
 tape : w'.tape = w.tape
 output : w'.output = w.output
 size : w.heap.size ≤ w'.heap.size
 block : ∀ k, k < w.heap.size → k ≠ g → w'.heap[k]? = w.heap[k]?
theorem Beside.of_below {g : Nat} {w w' : World} (h : Below w.heap.size w w') : Beside g w w' := ⟨h.os, h.tape, h.output, h.size, fun k hk _ => h.block k hk⟩
theorem Beside.trans {g : Nat} {a b c : World} (h : Beside g a b) (k : Beside g b c) : Beside g a c :=
 ⟨k.os.trans h.os, k.tape.trans h.tape, k.output.trans h.output, Nat.le_trans h.size k.size, fun i hi hg => (k.block i (Nat.lt_of_lt_of_le hi h.size) hg).trans (h.block i hi hg)⟩
theorem Beside.below {g B : Nat} {w w' : World} (h : Beside g w w') (hB : B ≤ g) (hs : B ≤ w.heap.size) : Below B w w' :=
 ⟨h.os, h.tape, h.output, h.size, fun k hk => h.block k (by omega) (by omega)⟩
theorem div3 (j t : Nat) (h : t < 3) : (j * 3 + t) / 3 = j := by omega
theorem mod3 (j t : Nat) (h : t < 3) : (j * 3 + t) % 3 = t := by omega
set_option maxHeartbeats 1000000 in
theorem sortRow_any (L : List Cel) (hne : L ≠ []) (cf : Ro → Ro → Int) (hO : IsOrd cf) (g : Nat) (cb : Array Value) (blk cap : Nat) (cur : Array Value) (w : World) (S : Nat → Prop)
  (eg : ∀ args w, (callFunc g args).run Try.prog w = .ok (.enter g args) w)
  (hcur : w.heap[blk]? = some (.cells cur 47 (0, 0))) (hat : CelAt cur L) (hn : L.length < 4611686018427387904)
  (hS : ∀ k, S k → k < w.heap.size ∧ k ≠ blk) (hrep : ∀ x ∈ L, RepRo S w x.1 (.string x.1.name) x.2 (.int .i64 x.1.stamp))
  (hclo : ∀ (x y : Cel) (W : World), Beside blk w W → RepRo S W x.1 (.string x.1.name) x.2 (.int .i64 x.1.stamp) → RepRo S W y.1 (.string y.1.name) y.2 (.int .i64 y.1.stamp) →
   Calls Try.prog g (#[.agg #[.string x.1.name, x.2, .int .i64 x.1.stamp], .agg #[.string y.1.name, y.2, .int .i64 y.1.stamp]] ++ cb) W fun e W' => e = .returned (.int .i64 (cf x.1 y.1)) ∧ Onto W W') :
  Calls Try.prog 39 #[.slice (some ⟨blk, 0, none⟩) L.length cap, .func (.func g) #[] cb] w fun e w' =>
   e = .returned (.tuple #[]) ∧ ∃ (L' : List Cel) (cur' : Array Value), L'.Perm L ∧ L'.Pairwise (fun a b => ¬ cf b.1 a.1 < 0) ∧ w'.heap[blk]? = some (.cells cur' 47 (0, 0)) ∧ cur'.size = cur.size ∧ CelAt cur' L' ∧ Beside blk w w' := by
 let P : Cel → Prop := fun x => RepRo S w x.1 (.string x.1.name) x.2 (.int .i64 x.1.stamp)
 haveI : Inhabited {x // P x} := ⟨⟨L.head hne, hrep _ (List.head_mem hne)⟩⟩
 let enc : {x // P x} → List Value := fun x => celOf x.1
 let d : Array {x // P x} := (L.attachWith P hrep).toArray
 have hd : d.size = L.length := by simp [d]
 have hdi : ∀ i (h : i < L.length), d[i]! = ⟨L[i], hrep _ (List.getElem_mem h)⟩ := fun i h => by
  rw [getElem!_pos d i (by omega)]; simp [d]
 have hblk : blk < w.heap.size := (Array.getElem?_eq_some_iff.1 hcur).1
 have hbes : ∀ (n : Nat) (os : Array Obj) (dk : Array {x // P x}), Beside blk w (sortWorldK enc 3 w blk 0 n dk os) := fun n os dk => by
  refine ⟨rfl, rfl, rfl, by unfold sortWorldK putRowK; simp [Sort.putRow, Sort.mapBlock, Sort.ahead, Sort.grow], fun k hk hne => ?_⟩;unfold sortWorldK putRowK;rw [heap_grow_old _ _ (by simpa [Sort.putRow, Sort.mapBlock, Sort.ahead] using hk)];simp [Sort.putRow, Sort.mapBlock, Sort.ahead, Array.getElem?_modify, Ne.symm hne]
 have hH : HoldsK enc 3 w blk 0 d := by
  intro t ht;rw [size_flatK, hd] at ht;have h1 : t / 3 < L.length := by omega
  rw [get_flatK _ _ _ _ (by omega), hdi _ h1, Nat.zero_add];refine ⟨?_, by simp [World.frozen?, hcur]⟩;have h2 := hat.2 (t / 3) h1 (t % 3) (by omega);rw [show t / 3 * 3 + t % 3 = t by omega] at h2
  show w.cell? ⟨blk, t, none⟩ = some ((celOf L[t / 3])[t % 3]!)
  have h3 : t % 3 < (celOf L[t / 3]).length := by rw [celOf_len]; omega
  rw [getElem!_pos (celOf L[t / 3]) (t % 3) h3];rw [List.getElem?_eq_getElem h3] at h2;exact cell_of_block' hcur _ h2
 have hcl : CmpLays Try.prog g cb enc 3 (fun x y => cf x.1.1 y.1.1) blk 0 d.size w := fun m os dk _ x y => by
  have hb := hbes m os dk;refine (hclo x.1 y.1 _ hb (RepRo.on (fun _ h => h) (fun k hk => hb.block k (hS k hk).1 (hS k hk).2) x.2) (RepRo.on (fun _ h => h) (fun k hk => hb.block k (hS k hk).1 (hS k hk).2) y.2)).mono ?_;rintro e w' ⟨he, ho⟩;exact ⟨he, ho.grow⟩
 have h := AnyQ.slices_SortFunc Try.sortRow 3 Try.isAgg47 Try.sizeOf47 enc (fun _ => rfl) (fun x v hv => by
  obtain ⟨fa, fc, -, e, -⟩ := x.2.form;simp only [enc, celOf, List.mem_cons, List.not_mem_nil, or_false] at hv
  rcases hv with rfl | rfl | rfl
  ·rfl
  ·rw [e]; rfl
  ·rfl) (fun x y => cf x.1.1 y.1.1) (ord_swo (ord_on hO (fun x : {x // P x} => x.1.1))) g cb blk 0 cap d w eg hcl hH hblk (by omega)
 rw [hd] at h;refine Calls.mono h ?_;rintro e w' ⟨he, d', n, os, ⟨hps, -, hperm⟩, hsort, rfl⟩;replace hps := hps.trans hd;have hext : ∀ a : Array {x // P x}, a.size = L.length → (a.extract 0 L.length).toList = a.toList := fun a ha => by rw [← ha, Array.extract_size]
 rw [hext d' hps, hext d hd] at hperm;have hL' : (d'.toList.map (·.1)).length = L.length := by simp [hps]
 refine ⟨he, d'.toList.map (·.1), Sort.putCells id 0 (flatK enc 3 d') cur, ?_, ?_, ?_, ?_, ?_, hbes n os d'⟩
 ·have h1 := hperm.map (·.1)
  have h2 : d.toList.map (·.1) = L := by
   apply List.ext_getElem?
   intro i
   by_cases hi : i < L.length
   ·rw [List.getElem?_map, List.getElem?_eq_getElem (by simp; omega), List.getElem?_eq_getElem hi]
    simp [d]
   ·rw [List.getElem?_eq_none (by simp; omega), List.getElem?_eq_none (by omega)]
  rw [h2] at h1;exact h1
 ·rw [List.pairwise_iff_getElem]
  intro i j hi hj hij;have h1 := hsort i j (Nat.zero_le _) hij (by omega);rw [getElem!_pos d' i (by omega), getElem!_pos d' j (by omega)] at h1
  simpa [ltOf] using h1
 ·unfold sortWorldK putRowK
  rw [heap_grow_old _ _ (by simpa [Sort.putRow, Sort.mapBlock, Sort.ahead] using hblk)];simp [Sort.putRow, Sort.mapBlock, Sort.ahead, Array.getElem?_modify, hcur, Sort.onCells]
 ·simp [Sort.putCells]
 ·refine ⟨by rw [hL']; simp [Sort.putCells]; exact hat.1, fun j hj t ht => ?_⟩
  rw [hL'] at hj;have hc := hat.1;have h1 : j * 3 + t < (flatK enc 3 d').size := by rw [size_flatK, hps]; omega
  have h2 : j * 3 + t < cur.size := by omega
  simp only [Sort.putCells, Array.getElem?_mapIdx]
  rw [Array.getElem?_eq_getElem h2];simp only [Option.map_some, Nat.zero_le, Nat.zero_add, true_and, Nat.sub_zero]
  rw [if_pos h1, get_flatK _ _ _ _ (by rw [size_flatK] at h1; exact h1), div3 j t ht, mod3 j t ht, getElem!_pos d' j (by omega)];have h3 : t < (celOf d'[j].1).length := by rw [celOf_len]; exact ht
  show some (id ((celOf d'[j].1)[t]!)) = _
  rw [getElem!_pos (celOf d'[j].1) t h3, id, ← List.getElem?_eq_getElem h3];simp
end Go.Proofs.Ytpnaegohjbaggaa
namespace Go.Proofs.Ytpnaegohjbaggaa
open Go.RowKit
def orZ : List Int → Int
 | [] => 0
 | x :: l => if x ≠ 0 then x else orZ l
theorem orZ_at {l : List Int} {k : Nat} (h : k < l.length) : orZ (l.drop k) = if l[k] ≠ 0 then l[k] else orZ (l.drop (k + 1)) := by
 rw [List.drop_eq_getElem_cons h, orZ]
theorem orZ_end {l : List Int} {k : Nat} (h : k = l.length) : orZ (l.drop k) = 0 := by rw [List.drop_of_length_le (by omega), orZ]
set_option maxRecDepth 100000 in
set_option maxHeartbeats 1000000 in
theorem or_any (l : List Int) (ga : Nat) (w : World) (hl : l.length ≤ 1000) (hc : ∀ j (h : j < l.length), w.cell? ⟨ga, j, none⟩ = some (.int .i64 l[j])) :
  Calls Try.prog 75 #[.slice (some ⟨ga, 0, none⟩) l.length l.length] w fun e w' => e = .returned (.int .i64 (orZ l)) ∧ w' = w := by
 have HC := Lib.hid hc; have HL := Lib.hid hl
 clear hc hl;go_enter Try.func75, Try.ntmps75
 go_wp2_with fail
 go_loopw [8] (fun iv wr => ∃ k : Nat, k ≤ l.length ∧ iv = .int .i64 (k : Int) ∧ Hid (orZ l = orZ (l.drop k)) ∧ wr = w) (fun iv _ => l.length - (intOf iv).toNat)
 case atStart => exact ⟨0, Nat.zero_le _, rfl, rfl, rfl⟩
 case round =>
  obtain ⟨k, hk, rfl, hrec, rfl⟩ := hrel
  by_cases hlt : k < l.length
  ·have p0 := HC.out k hlt
   have hk1 : (0 : Int) ≤ (k : Int) := Int.natCast_nonneg k;have hk2 : (k : Int) < (l.length : Int) := by omega
   have k1 : decide ((k : Int) < (l.length : Int)) = true := decide_eq_true hk2;have HREC := Lib.hid (hrec.out.trans (orZ_at hlt));have HLT := Lib.hid hlt;have hl := HL.out;clear hrec;generalize l[k] = x at *;clear hlt
   by_cases hx : x = 0
   ·have hx' : (x != 0) = false := by simp [hx]
    have HX := Lib.hid hx;clear hx hk;go_wp2_with fail
    go_roundw
    case rel => exact ⟨k + 1, HLT.out, by go_num, by show _ = _; rw [HREC.out, if_neg (by simp [HX.out])], True.intro⟩
    case measure => have := HLT.out; simp [intOf]; omega
   ·have hx' : (x != 0) = true := by simp [hx]
    have HX := Lib.hid hx;clear hx hk;go_wp2_with fail
    go_ret
    exact ⟨ret_int (by rw [HREC.out, if_pos HX.out]), rfl⟩
  ·have hke : k = l.length := by omega
   have HE := Lib.hid (hrec.out.trans (orZ_end hke));clear hrec hk;subst hke;go_wp2_with fail
   go_ret
   exact ⟨ret_int HE.out.symm, rfl⟩
theorem boxed2 (w : World) (o1 o2 : Obj) : ∃ w2, (w.alloc o1).alloc o2 = w2 ∧ w2.heap[w.heap.size]? = some o1 ∧ w2.heap[w.heap.size + 1]? = some o2 ∧ Onto w w2 := by
 refine ⟨_, rfl, ?_, ?_, ((Onto.refl w).alloc o1).alloc o2⟩
 ·exact ((below_alloc (w.alloc o1) o2).block _ (by rw [World.size_alloc]; omega)).trans (alloc_new' w o1)
 ·have := alloc_new' (w.alloc o1) o2
  rw [World.size_alloc] at this;exact this
set_option maxRecDepth 100000 in
set_option maxHeartbeats 1000000 in
theorem same2_any (x y : Ro) (S : Nat → Prop) (w : World) (xv yv : Value) (hS : ∀ k, S k → k < w.heap.size) (hx : RepRo S w x (.string x.name) xv (.int .i64 x.stamp)) (hy : RepRo S w y (.string y.name) yv (.int .i64 y.stamp)) :
  Calls Try.prog 77 #[.agg #[.string x.name, xv, .int .i64 x.stamp], .agg #[.string y.name, yv, .int .i64 y.stamp]] w fun e w' => e = .returned (.bool (cmpRo x y == 0)) ∧ Onto w w' := by
 have HX := Lib.hid hx; have HY := Lib.hid hy; have HS := Lib.hid hS
 clear hx hy hS;go_enter Try.func77, Try.ntmps77
 go_upto_region 1 with fail
 obtain ⟨w2, hw2, m0, m1, ho⟩ := boxed2 w (.cells #[.string x.name, xv, .int .i64 x.stamp] 47) (.cells #[.string y.name, yv, .int .i64 y.stamp] 47);rw [hw2];have HO := Lib.hid ho;clear hw2 ho;obtain ⟨b1, hb1⟩ : ∃ b1, w.heap.size + 1 = b1 := ⟨_, rfl⟩;rw [hb1] at m1 ⊢;clear hb1;have p0 := cell_of_block' (i := 0) m0 _ rfl;have p1 := cell_of_block' (i := 1) m0 _ rfl;have p2 := cell_of_block' (i := 2) m0 _ rfl;have q0 := cell_of_block' (i := 0) m1 _ rfl;have q1 := cell_of_block' (i := 1) m1 _ rfl;have q2 := cell_of_block' (i := 2) m1 _ rfl;clear m0 m1;go_wp2_with fail
 refine (cmpRo_any x y S w2 _ _ _ _ _ _ (fun k hk => Nat.lt_of_lt_of_le (HS.out k hk) HO.out.below.size) (RepRo.on (fun _ h => h) (fun k hk => HO.out.below.block k (HS.out k hk)) HX.out) (RepRo.on (fun _ h => h) (fun k hk => HO.out.below.block k (HS.out k hk)) HY.out)).mono ?_;rintro e w3 ⟨rfl, ho⟩;have HO3 := Lib.hid (HO.out.trans ho);clear ho p0 p1 p2 q0 q1 q2;obtain ⟨c, hc⟩ : ∃ c, cmpRo x y = c := ⟨_, rfl⟩;rw [hc];have HC := Lib.hid hc;clear hc;go_wp2_with fail
 go_ret
 exact ⟨by rw [HC.out] <;> rfl, HO3.out⟩
def cmpMe (a b : Ro) : Int := if cmpRo a b ≠ 0 then cmpRo a b else Lib.compareInt b.stamp a.stamp
theorem ord_cmpMe : IsOrd cmpMe := ord_or ord_cmpRo (ord_back (ord_on (fun a b c => ord_int a b c) Ro.stamp))
theorem or2_any (a b : Int) (w : World) :
  Calls Try.prog 75 #[.slice (some ⟨w.heap.size, 0, none⟩) 2 2] (w.alloc (.cells #[.int .i64 a, .int .i64 b] 3)) fun e w' => e = .returned (.int .i64 (orZ [a, b])) ∧ w' = w.alloc (.cells #[.int .i64 a, .int .i64 b] 3) := by
 have hm := alloc_new' w (.cells #[.int .i64 a, .int .i64 b] 3);refine (or_any [a, b] w.heap.size _ (by simp) (fun j h => ?_)).mono ?_
 ·match j, h with
  | 0, _ => exact cell_of_block' (i := 0) hm _ rfl
  | 1, _ => exact cell_of_block' (i := 1) hm _ rfl
 ·rintro e w' ⟨rfl, rfl⟩
  exact ⟨rfl, rfl⟩
theorem orZ_two (a b : Int) : orZ [a, b] = if a ≠ 0 then a else b := by
 unfold orZ orZ orZ
 split
 ·rfl
 ·split
  ·rfl
  ·omega
set_option maxRecDepth 100000 in
set_option maxHeartbeats 2000000 in
theorem cmpMe_any (x y : Ro) (S : Nat → Prop) (w : World) (xv yv : Value) (hS : ∀ k, S k → k < w.heap.size) (hx : RepRo S w x (.string x.name) xv (.int .i64 x.stamp)) (hy : RepRo S w y (.string y.name) yv (.int .i64 y.stamp)) :
  Calls Try.prog 74 #[.agg #[.string x.name, xv, .int .i64 x.stamp], .agg #[.string y.name, yv, .int .i64 y.stamp]] w fun e w' => e = .returned (.int .i64 (cmpMe x y)) ∧ Onto w w' := by
 have HX := Lib.hid hx; have HY := Lib.hid hy; have HS := Lib.hid hS
 clear hx hy hS;go_enter Try.func74, Try.ntmps74
 go_upto_region 1 with fail
 obtain ⟨w2, hw2, m0, m1, ho⟩ := boxed2 w (.cells #[.string x.name, xv, .int .i64 x.stamp] 47) (.cells #[.string y.name, yv, .int .i64 y.stamp] 47);rw [hw2];have HO := Lib.hid ho;have hb0 : w.heap.size < w2.heap.size := (Array.getElem?_eq_some_iff.1 m0).1;have hb1' : w.heap.size + 1 < w2.heap.size := (Array.getElem?_eq_some_iff.1 m1).1;clear hw2 ho;obtain ⟨b1, hb1⟩ : ∃ b1, w.heap.size + 1 = b1 := ⟨_, rfl⟩;obtain ⟨b0, hbz⟩ : ∃ b0, w.heap.size = b0 := ⟨_, rfl⟩;rw [hb1] at m1 hb1' ⊢;rw [hbz] at m0 hb0 ⊢;have HWB := Lib.hid hbz;clear hb1 hbz;have p0 : w2.drew.cell? ⟨b0, 0, none⟩ = some (.string x.name) := cell_of_block' (i := 0) m0 _ rfl;have p1 : w2.drew.cell? ⟨b0, 1, none⟩ = some (xv) := cell_of_block' (i := 1) m0 _ rfl;have p2 : w2.drew.cell? ⟨b0, 2, none⟩ = some (.int .i64 x.stamp) := cell_of_block' (i := 2) m0 _ rfl;have q0 : w2.drew.cell? ⟨b1, 0, none⟩ = some (.string y.name) := cell_of_block' (i := 0) m1 _ rfl;have q1 : w2.drew.cell? ⟨b1, 1, none⟩ = some (yv) := cell_of_block' (i := 1) m1 _ rfl;have q2 : w2.drew.cell? ⟨b1, 2, none⟩ = some (.int .i64 y.stamp) := cell_of_block' (i := 2) m1 _ rfl;have HB : Hid (b0 < w2.drew.heap.size ∧ b1 < w2.drew.heap.size) := ⟨hb0, hb1'⟩;have HOD : Hid (Onto w w2.drew) := HO.out.drew;have HSD : Hid (∀ k, S k → k < w2.drew.heap.size) := fun k hk => Nat.lt_of_lt_of_le (HS.out k hk) HO.out.below.size
 have HXD : Hid (RepRo S w2.drew x (.string x.name) xv (.int .i64 x.stamp)) := RepRo.on (w' := w2.drew) (fun _ h => h) (fun k hk => HO.out.below.block k (HS.out k hk)) HX.out;have HYD : Hid (RepRo S w2.drew y (.string y.name) yv (.int .i64 y.stamp)) := RepRo.on (w' := w2.drew) (fun _ h => h) (fun k hk => HO.out.below.block k (HS.out k hk)) HY.out;clear m0 m1 hb0 hb1' HX HY HS HO
 go_region_held3 (fun w' => w'.cell? ⟨b0, 0, none⟩ = some (.string x.name) ∧ w'.cell? ⟨b0, 1, none⟩ = some xv ∧ w'.cell? ⟨b0, 2, none⟩ = some (.int .i64 x.stamp) ∧ w'.cell? ⟨b1, 0, none⟩ = some (.string y.name) ∧ w'.cell? ⟨b1, 1, none⟩ = some yv ∧ w'.cell? ⟨b1, 2, none⟩ = some (.int .i64 y.stamp))
  (first | (with_reducible exact ⟨p0, p1, p2, q0, q1, q2⟩) | (with_reducible exact ⟨(ho.below.cell (p := ⟨b0, 0, none⟩) HB.out.1).trans p0, (ho.below.cell (p := ⟨b0, 1, none⟩) HB.out.1).trans p1, (ho.below.cell (p := ⟨b0, 2, none⟩) HB.out.1).trans p2, (ho.below.cell (p := ⟨b1, 0, none⟩) HB.out.2).trans q0, (ho.below.cell (p := ⟨b1, 1, none⟩) HB.out.2).trans q1, (ho.below.cell (p := ⟨b1, 2, none⟩) HB.out.2).trans q2⟩) | (with_reducible exact ⟨((ho.alloc _).below.cell (p := ⟨b0, 0, none⟩) HB.out.1).trans p0, ((ho.alloc _).below.cell (p := ⟨b0, 1, none⟩) HB.out.1).trans p1, ((ho.alloc _).below.cell (p := ⟨b0, 2, none⟩) HB.out.1).trans p2, ((ho.alloc _).below.cell (p := ⟨b1, 0, none⟩) HB.out.2).trans q0, ((ho.alloc _).below.cell (p := ⟨b1, 1, none⟩) HB.out.2).trans q1, ((ho.alloc _).below.cell (p := ⟨b1, 2, none⟩) HB.out.2).trans q2⟩))
  (first | (go_at_call 40; refine (cmpRo_any x y S _ _ _ _ _ _ _ HSD.out HXD.out HYD.out).mono ?_; rintro e w3 ⟨rfl, ho⟩) | (go_at_call 41; refine (Try.cmp_Compare_int _ _ _).mono ?_; rintro e w' ⟨rfl, rfl⟩) | (go_at_call 75; refine (or2_any _ _ _).mono ?_; rintro e w' ⟨rfl, rfl⟩))
 go_wp2_with fail
 go_ret
 exact ⟨ret_int (orZ_two _ _), HOD.out.trans (ho.alloc _)⟩
end Go.Proofs.Ytpnaegohjbaggaa
