/-
  Shelf, Base, Term, Name
-/
import Derived.Test.YtcmlojigcgihbaaGreatProg
import Derived.Shelf.Small.Wraps
import Derived.Lib.Hide
import Derived.Shelf.Strings.Builder1
import Derived.Shelf.Strconv.Itoa0
import Derived.WalkKit
import Derived.WalkSpells
import Derived.WalkLawsBesides
namespace Go.Proofs
open Go.Shelf
end Go.Proofs
namespace Go.Proofs.YtcmlojigcgihbaaGreat
open Go.RowKit
inductive V where
 | mk (k n : Int) (s : ByteArray) (l : List V) : V
namespace V
def kind : V → Int | mk k _ _ _ => k
def num : V → Int | mk _ n _ _ => n
def text : V → ByteArray | mk _ _ s _ => s
def list : V → List V | mk _ _ _ l => l
end V
def I64 (n : Int) : Prop := -9223372036854775808 ≤ n ∧ n ≤ 9223372036854775807
def RepG (S : Nat → Prop) (w : World) : V → Value → Value → Value → Value → Prop
 | .mk k n s l, c0, c1, c2, c3 => c0 = .int .i64 k ∧ c1 = .int .i64 n ∧ c2 = .string s ∧ I64 k ∧ I64 n ∧ s.size ≤ maxLen ∧
   ∃ (a : Option Addr) (b o cap : Nat), c3 = .slice a l.length cap ∧ l.length ≤ cap ∧ l.length * 56 ≤ 140737488355328 ∧ (0 < cap → a = some ⟨b, o, none⟩) ∧ (0 < l.length → S b) ∧
    ∀ i (h : i < l.length), ∃ x0 x1 x2 x3 : Value, w.cell? ⟨b, o + i * 4, none⟩ = some x0 ∧ w.cell? ⟨b, o + i * 4 + 1, none⟩ = some x1 ∧ w.cell? ⟨b, o + i * 4 + 2, none⟩ = some x2 ∧
     w.cell? ⟨b, o + i * 4 + 3, none⟩ = some x3 ∧ RepG S w l[i] x0 x1 x2 x3
 termination_by x => SizeOf.sizeOf x
 decreasing_by
  have := List.sizeOf_lt_of_mem (List.getElem_mem h);simp only [V.mk.sizeOf_spec]
  omega
def RepLG (S : Nat → Prop) (w : World) (l : List V) (v : Value) : Prop :=
 ∃ (a : Option Addr) (b o cap : Nat), v = .slice a l.length cap ∧ l.length ≤ cap ∧ l.length * 56 ≤ 140737488355328 ∧ (0 < cap → a = some ⟨b, o, none⟩) ∧ (0 < l.length → S b) ∧
  ∀ i (h : i < l.length), ∃ x0 x1 x2 x3 : Value, w.cell? ⟨b, o + i * 4, none⟩ = some x0 ∧ w.cell? ⟨b, o + i * 4 + 1, none⟩ = some x1 ∧ w.cell? ⟨b, o + i * 4 + 2, none⟩ = some x2 ∧
   w.cell? ⟨b, o + i * 4 + 3, none⟩ = some x3 ∧ RepG S w l[i] x0 x1 x2 x3
def RepV (B : Nat) (w : World) (x : V) (c0 c1 c2 c3 : Value) : Prop := RepG (fun b => b < B) w x c0 c1 c2 c3
def RepL (B : Nat) (w : World) (l : List V) (v : Value) : Prop := RepLG (fun b => b < B) w l v
theorem repG_mk {S : Nat → Prop} {w : World} {k n : Int} {s : ByteArray} {l : List V} {c0 c1 c2 c3 : Value} :
  RepG S w (.mk k n s l) c0 c1 c2 c3 ↔ (c0 = .int .i64 k ∧ c1 = .int .i64 n ∧ c2 = .string s ∧ I64 k ∧ I64 n ∧ s.size ≤ maxLen ∧ RepLG S w l c3) := by
 rw [RepG]; rfl
theorem repV_mk {B : Nat} {w : World} {k n : Int} {s : ByteArray} {l : List V} {c0 c1 c2 c3 : Value} :
  RepV B w (.mk k n s l) c0 c1 c2 c3 ↔ (c0 = .int .i64 k ∧ c1 = .int .i64 n ∧ c2 = .string s ∧ I64 k ∧ I64 n ∧ s.size ≤ maxLen ∧ RepL B w l c3) := repG_mk
theorem RepG.form {S : Nat → Prop} {w : World} {x : V} {c0 c1 c2 c3 : Value} (h : RepG S w x c0 c1 c2 c3) :
  ∃ (a : Option Addr) (cap : Nat), c0 = .int .i64 x.kind ∧ c1 = .int .i64 x.num ∧ c2 = .string x.text ∧ c3 = .slice a x.list.length cap := by
 cases x with
 | mk k n s l =>
  rw [repG_mk] at h;obtain ⟨h0, h1, h2, h3, h4, h5, a, b, o, cap, e, _⟩ := h;exact ⟨a, cap, h0, h1, h2, e⟩
theorem RepV.form {B : Nat} {w : World} {x : V} {c0 c1 c2 c3 : Value} (h : RepV B w x c0 c1 c2 c3) :
  ∃ (a : Option Addr) (cap : Nat), c0 = .int .i64 x.kind ∧ c1 = .int .i64 x.num ∧ c2 = .string x.text ∧ c3 = .slice a x.list.length cap := RepG.form h
theorem RepG.lst {S : Nat → Prop} {w : World} {x : V} {c0 c1 c2 c3 : Value} (h : RepG S w x c0 c1 c2 c3) : RepLG S w x.list c3 := by
 cases x with
 | mk k n s l => exact (repG_mk.1 h).2.2.2.2.2.2
theorem RepG.on {S S' : Nat → Prop} {w w' : World} (hS : ∀ k, S k → S' k) (hw : ∀ k, S k → w'.heap[k]? = w.heap[k]?) : ∀ (x : V) {c0 c1 c2 c3 : Value}, RepG S w x c0 c1 c2 c3 → RepG S' w' x c0 c1 c2 c3
 | .mk k n s l, c0, c1, c2, c3, h => by
  rw [repG_mk] at h ⊢;obtain ⟨h0, h1, h2, h3, h4, h5, a, b, o, cap, e, h6, h7, h8, h9, h10⟩ := h;refine ⟨h0, h1, h2, h3, h4, h5, a, b, o, cap, e, h6, h7, h8, fun h => hS _ (h9 h), fun i hi => ?_⟩;obtain ⟨x0, x1, x2, x3, g0, g1, g2, g3, g⟩ := h10 i hi;have hb : S b := h9 (by omega);have hc : ∀ o', w'.cell? ⟨b, o', none⟩ = w.cell? ⟨b, o', none⟩ := fun o' => World.cell?_of_block (w := w) (hw b hb)
  exact ⟨x0, x1, x2, x3, by rw [hc]; exact g0, by rw [hc]; exact g1, by rw [hc]; exact g2, by rw [hc]; exact g3, RepG.on hS hw l[i] g⟩
 termination_by x => SizeOf.sizeOf x
 decreasing_by
  have := List.sizeOf_lt_of_mem (List.getElem_mem hi);simp only [V.mk.sizeOf_spec]
  omega
theorem RepLG.on {S S' : Nat → Prop} {w w' : World} (hS : ∀ k, S k → S' k) (hw : ∀ k, S k → w'.heap[k]? = w.heap[k]?) {l : List V} {v : Value} (h : RepLG S w l v) : RepLG S' w' l v := by
 obtain ⟨a, b, o, cap, e, h6, h7, h8, h9, h10⟩ := h;refine ⟨a, b, o, cap, e, h6, h7, h8, fun h => hS _ (h9 h), fun i hi => ?_⟩;obtain ⟨x0, x1, x2, x3, g0, g1, g2, g3, g⟩ := h10 i hi;have hb : S b := h9 (by omega);have hc : ∀ o', w'.cell? ⟨b, o', none⟩ = w.cell? ⟨b, o', none⟩ := fun o' => World.cell?_of_block (w := w) (hw b hb)
 exact ⟨x0, x1, x2, x3, by rw [hc]; exact g0, by rw [hc]; exact g1, by rw [hc]; exact g2, by rw [hc]; exact g3, RepG.on hS hw l[i] g⟩
theorem RepV.below {B : Nat} {w w' : World} (hw : ∀ k, k < B → w'.heap[k]? = w.heap[k]?) (x : V) {c0 c1 c2 c3 : Value} (h : RepV B w x c0 c1 c2 c3) : RepV B w' x c0 c1 c2 c3 := RepG.on (fun _ h => h) hw x h
theorem RepL.below {B : Nat} {w w' : World} (hw : ∀ k, k < B → w'.heap[k]? = w.heap[k]?) {l : List V} {v : Value} (h : RepL B w l v) : RepL B w' l v := RepLG.on (fun _ h => h) hw h
end Go.Proofs.YtcmlojigcgihbaaGreat
namespace Go.Proofs.YtcmlojigcgihbaaGreat
open Go.RowKit
def SlG {α : Type} (S : Nat → Prop) (w : World) (n bytes : Nat) (R : α → (Nat → Value) → Prop) (l : List α) (v : Value) : Prop :=
 ∃ (a : Option Addr) (b o cap : Nat), v = .slice a l.length cap ∧ l.length ≤ cap ∧ l.length * bytes ≤ 140737488355328 ∧ (0 < cap → a = some ⟨b, o, none⟩) ∧ (0 < l.length → S b) ∧
  ∀ i (h : i < l.length), ∃ c : Nat → Value, (∀ j, j < n → w.cell? ⟨b, o + i * n + j, none⟩ = some (c j)) ∧ R l[i] c
theorem SlG.on {α : Type} {S S' : Nat → Prop} {w w' : World} {n bytes : Nat} {R R' : α → (Nat → Value) → Prop} {l : List α} {v : Value} (hS : ∀ k, S k → S' k) (hw : ∀ k, S k → w'.heap[k]? = w.heap[k]?) (hR : ∀ x ∈ l, ∀ c, R x c → R' x c) (h : SlG S w n bytes R l v) : SlG S' w' n bytes R' l v := by
 obtain ⟨a, b, o, cap, e, h6, h7, h8, h9, h10⟩ := h;refine ⟨a, b, o, cap, e, h6, h7, h8, fun h => hS _ (h9 h), fun i hi => ?_⟩;obtain ⟨c, hc, hr⟩ := h10 i hi;have hb : S b := h9 (by omega);exact ⟨c, fun j hj => (World.cell?_of_block (w := w) (hw b hb)).trans (hc j hj), hR _ (List.getElem_mem hi) c hr⟩
theorem SlG.form {α : Type} {S : Nat → Prop} {w : World} {n bytes : Nat} {R : α → (Nat → Value) → Prop} {l : List α} {v : Value} (h : SlG S w n bytes R l v) : ∃ (a : Option Addr) (cap : Nat), v = .slice a l.length cap := by
 obtain ⟨a, b, o, cap, e, -⟩ := h;exact ⟨a, cap, e⟩
theorem SlG.at {α : Type} {S : Nat → Prop} {w : World} {n bytes : Nat} {R : α → (Nat → Value) → Prop} {l : List α} {a : Option Addr} {len cap : Nat} (h : SlG S w n bytes R l (.slice a len cap)) (i : Nat) (hi : i < l.length) :
  len = l.length ∧ l.length ≤ cap ∧ ∃ (b o : Nat), a = some ⟨b, o, none⟩ ∧ S b ∧ ∃ c : Nat → Value, (∀ j, j < n → w.cell? ⟨b, o + i * n + j, none⟩ = some (c j)) ∧ R l[i] c := by
 obtain ⟨a', b, o, cap', e, h6, h7, h8, h9, h10⟩ := h
 cases e
 exact ⟨rfl, h6, b, o, h8 (by omega), h9 (by omega), h10 i hi⟩
theorem SlG.bytes {α : Type} {S : Nat → Prop} {w : World} {n bytes : Nat} {R : α → (Nat → Value) → Prop} {l : List α} {v : Value} (h : SlG S w n bytes R l v) : l.length * bytes ≤ 140737488355328 := by
 obtain ⟨a, b, o, cap, e, h6, h7, -⟩ := h;exact h7
inductive Tm where
 | mk (kind : Int) (name : ByteArray) (val : V) (args : List Tm) : Tm
namespace Tm
def kind : Tm → Int | mk k _ _ _ => k
def name : Tm → ByteArray | mk _ s _ _ => s
def val : Tm → V | mk _ _ x _ => x
def args : Tm → List Tm | mk _ _ _ l => l
end Tm
def RepM (S : Nat → Prop) (w : World) : Tm → Value → Value → Value → Value → Value → Value → Value → Prop
 | .mk k s x l, c0, c1, c2, c3, c4, c5, c6 => c0 = .int .i64 k ∧ c1 = .string s ∧ I64 k ∧ s.size ≤ maxLen ∧ RepG S w x c2 c3 c4 c5 ∧
   ∃ (a : Option Addr) (b o cap : Nat), c6 = .slice a l.length cap ∧ l.length ≤ cap ∧ l.length * 104 ≤ 140737488355328 ∧ (0 < cap → a = some ⟨b, o, none⟩) ∧ (0 < l.length → S b) ∧
    ∀ i (h : i < l.length), ∃ c : Nat → Value, (∀ j, j < 7 → w.cell? ⟨b, o + i * 7 + j, none⟩ = some (c j)) ∧ RepM S w l[i] (c 0) (c 1) (c 2) (c 3) (c 4) (c 5) (c 6)
 termination_by x => SizeOf.sizeOf x
 decreasing_by
  have := List.sizeOf_lt_of_mem (List.getElem_mem h);simp only [Tm.mk.sizeOf_spec]
  omega
def RepMs (S : Nat → Prop) (w : World) (l : List Tm) (v : Value) : Prop := SlG S w 7 104 (fun x c => RepM S w x (c 0) (c 1) (c 2) (c 3) (c 4) (c 5) (c 6)) l v
theorem repM_mk {S : Nat → Prop} {w : World} {k : Int} {s : ByteArray} {x : V} {l : List Tm} {c0 c1 c2 c3 c4 c5 c6 : Value} :
  RepM S w (.mk k s x l) c0 c1 c2 c3 c4 c5 c6 ↔ (c0 = .int .i64 k ∧ c1 = .string s ∧ I64 k ∧ s.size ≤ maxLen ∧ RepG S w x c2 c3 c4 c5 ∧ RepMs S w l c6) := by
 rw [RepM]; rfl
theorem RepM.on {S S' : Nat → Prop} {w w' : World} (hS : ∀ k, S k → S' k) (hw : ∀ k, S k → w'.heap[k]? = w.heap[k]?) : ∀ (x : Tm) {c0 c1 c2 c3 c4 c5 c6 : Value}, RepM S w x c0 c1 c2 c3 c4 c5 c6 → RepM S' w' x c0 c1 c2 c3 c4 c5 c6
 | .mk k s x l, c0, c1, c2, c3, c4, c5, c6, h => by
  rw [repM_mk] at h ⊢;obtain ⟨h0, h1, h2, h3, h4, a, b, o, cap, e, h6, h7, h8, h9, h10⟩ := h;refine ⟨h0, h1, h2, h3, RepG.on hS hw x h4, a, b, o, cap, e, h6, h7, h8, fun h => hS _ (h9 h), fun i hi => ?_⟩;obtain ⟨c, hc, hr⟩ := h10 i hi;have hb : S b := h9 (by omega);exact ⟨c, fun j hj => (World.cell?_of_block (w := w) (hw b hb)).trans (hc j hj), RepM.on hS hw l[i] hr⟩
 termination_by x => SizeOf.sizeOf x
 decreasing_by
  have := List.sizeOf_lt_of_mem (List.getElem_mem hi);simp only [Tm.mk.sizeOf_spec]
  omega
theorem RepMs.on {S S' : Nat → Prop} {w w' : World} (hS : ∀ k, S k → S' k) (hw : ∀ k, S k → w'.heap[k]? = w.heap[k]?) {l : List Tm} {v : Value} (h : RepMs S w l v) : RepMs S' w' l v :=
 SlG.on hS hw (fun x _ _ hx => RepM.on hS hw x hx) h
theorem RepM.form {S : Nat → Prop} {w : World} {x : Tm} {c0 c1 c2 c3 c4 c5 c6 : Value} (h : RepM S w x c0 c1 c2 c3 c4 c5 c6) :
  ∃ (fa : Option Addr) (fc : Nat) (ga : Option Addr) (gc : Nat), c0 = .int .i64 x.kind ∧ c1 = .string x.name ∧ c2 = .int .i64 x.val.kind ∧ c3 = .int .i64 x.val.num ∧ c4 = .string x.val.text ∧ c5 = .slice fa x.val.list.length fc ∧ c6 = .slice ga x.args.length gc := by
 cases x with
 | mk k s x l =>
  rw [repM_mk] at h;obtain ⟨h0, h1, -, -, h4, h5⟩ := h;obtain ⟨fa, fc, e2, e3, e4, e5⟩ := h4.form;obtain ⟨ga, gc, e6⟩ := SlG.form h5;exact ⟨fa, fc, ga, gc, h0, h1, e2, e3, e4, e5, e6⟩
theorem RepM.value {S : Nat → Prop} {w : World} {x : Tm} {c0 c1 c2 c3 c4 c5 c6 : Value} (h : RepM S w x c0 c1 c2 c3 c4 c5 c6) : RepG S w x.val c2 c3 c4 c5 := by
 cases x with
 | mk k s x l => exact (repM_mk.1 h).2.2.2.2.1
theorem RepM.lst {S : Nat → Prop} {w : World} {x : Tm} {c0 c1 c2 c3 c4 c5 c6 : Value} (h : RepM S w x c0 c1 c2 c3 c4 c5 c6) : RepMs S w x.args c6 := by
 cases x with
 | mk k s x l => exact (repM_mk.1 h).2.2.2.2.2
theorem RepM.bounds {S : Nat → Prop} {w : World} {x : Tm} {c0 c1 c2 c3 c4 c5 c6 : Value} (h : RepM S w x c0 c1 c2 c3 c4 c5 c6) : I64 x.kind ∧ x.name.size ≤ maxLen := by
 cases x with
 | mk k s x l => exact ⟨(repM_mk.1 h).2.2.1, (repM_mk.1 h).2.2.2.1⟩
def TmAt (S : Nat → Prop) (w : World) (x : Tm) (fa : Option Addr) (fc : Nat) (ga : Option Addr) (gc : Nat) : Prop :=
 RepM S w x (.int .i64 x.kind) (.string x.name) (.int .i64 x.val.kind) (.int .i64 x.val.num) (.string x.val.text) (.slice fa x.val.list.length fc) (.slice ga x.args.length gc)
theorem RepMs.at {S : Nat → Prop} {w : World} {l : List Tm} {a : Option Addr} {len cap : Nat} (h : RepMs S w l (.slice a len cap)) (i : Nat) (hi : i < l.length) :
  len = l.length ∧ l.length ≤ cap ∧ ∃ (b o : Nat) (fa : Option Addr) (fc : Nat) (ga : Option Addr) (gc : Nat), a = some ⟨b, o, none⟩ ∧ S b ∧
   w.cell? ⟨b, o + i * 7, none⟩ = some (.int .i64 l[i].kind) ∧ w.cell? ⟨b, o + i * 7 + 1, none⟩ = some (.string l[i].name) ∧ w.cell? ⟨b, o + i * 7 + 2, none⟩ = some (.int .i64 l[i].val.kind) ∧ w.cell? ⟨b, o + i * 7 + 3, none⟩ = some (.int .i64 l[i].val.num) ∧
   w.cell? ⟨b, o + i * 7 + 4, none⟩ = some (.string l[i].val.text) ∧ w.cell? ⟨b, o + i * 7 + 5, none⟩ = some (.slice fa l[i].val.list.length fc) ∧ w.cell? ⟨b, o + i * 7 + 6, none⟩ = some (.slice ga l[i].args.length gc) ∧ TmAt S w l[i] fa fc ga gc := by
 obtain ⟨h1, h2, b, o, h3, h4, c, hc, hr⟩ := SlG.at h i hi;obtain ⟨fa, fc, ga, gc, e0, e1, e2, e3, e4, e5, e6⟩ := hr.form;rw [e0, e1, e2, e3, e4, e5, e6] at hr;exact ⟨h1, h2, b, o, fa, fc, ga, gc, h3, h4, by rw [← e0]; exact hc 0 (by omega), by rw [← e1]; exact hc 1 (by omega), by rw [← e2]; exact hc 2 (by omega), by rw [← e3]; exact hc 3 (by omega), by rw [← e4]; exact hc 4 (by omega), by rw [← e5]; exact hc 5 (by omega), by rw [← e6]; exact hc 6 (by omega), hr⟩
structure Li where
 kind : Int
 name : ByteArray
 args : List Tm
def RepLi (S : Nat → Prop) (w : World) (x : Li) (c0 c1 c2 : Value) : Prop := c0 = .int .i64 x.kind ∧ c1 = .string x.name ∧ I64 x.kind ∧ x.name.size ≤ maxLen ∧ RepMs S w x.args c2
def RepLis (S : Nat → Prop) (w : World) (l : List Li) (v : Value) : Prop := SlG S w 3 48 (fun x c => RepLi S w x (c 0) (c 1) (c 2)) l v
structure Ru where
 label : ByteArray
 head : ByteArray
 args : List Tm
 agg : ByteArray
 at' : Int
 body : List Li
def RepRu (S : Nat → Prop) (w : World) (x : Ru) (c0 c1 c2 c3 c4 c5 : Value) : Prop := c0 = .string x.label ∧ c1 = .string x.head ∧ c3 = .string x.agg ∧ c4 = .int .i64 x.at' ∧ x.label.size ≤ maxLen ∧ x.head.size ≤ maxLen ∧ x.agg.size ≤ maxLen ∧ I64 x.at' ∧ RepMs S w x.args c2 ∧ RepLis S w x.body c5
def RepRus (S : Nat → Prop) (w : World) (l : List Ru) (v : Value) : Prop := SlG S w 6 104 (fun x c => RepRu S w x (c 0) (c 1) (c 2) (c 3) (c 4) (c 5)) l v
structure De where
 name : ByteArray
 arity : Int
def RepDe (_S : Nat → Prop) (_w : World) (x : De) (c0 c1 : Value) : Prop := c0 = .string x.name ∧ c1 = .int .i64 x.arity ∧ x.name.size ≤ maxLen ∧ I64 x.arity
def RepDes (S : Nat → Prop) (w : World) (l : List De) (v : Value) : Prop := SlG S w 2 24 (fun x c => RepDe S w x (c 0) (c 1)) l v
structure Fa where
 name : ByteArray
 args : List V
def RepFa (S : Nat → Prop) (w : World) (x : Fa) (c0 c1 : Value) : Prop := c0 = .string x.name ∧ x.name.size ≤ maxLen ∧ RepLG S w x.args c1
def RepFas (S : Nat → Prop) (w : World) (l : List Fa) (v : Value) : Prop := SlG S w 2 40 (fun x c => RepFa S w x (c 0) (c 1)) l v
structure Pr where
 decls : List De
 facts : List Fa
 rules : List Ru
def RepPr (S : Nat → Prop) (w : World) (x : Pr) (c0 c1 c2 : Value) : Prop := RepDes S w x.decls c0 ∧ RepFas S w x.facts c1 ∧ RepRus S w x.rules c2
section
variable {S S' : Nat → Prop} {w w' : World} (hS : ∀ k, S k → S' k) (hw : ∀ k, S k → w'.heap[k]? = w.heap[k]?)
include hS hw
theorem RepLi.on {x : Li} {c0 c1 c2 : Value} (h : RepLi S w x c0 c1 c2) : RepLi S' w' x c0 c1 c2 := ⟨h.1, h.2.1, h.2.2.1, h.2.2.2.1, RepMs.on hS hw h.2.2.2.2⟩
theorem RepLis.on {l : List Li} {v : Value} (h : RepLis S w l v) : RepLis S' w' l v := SlG.on hS hw (fun _ _ _ hx => RepLi.on hS hw hx) h
theorem RepRu.on {x : Ru} {c0 c1 c2 c3 c4 c5 : Value} (h : RepRu S w x c0 c1 c2 c3 c4 c5) : RepRu S' w' x c0 c1 c2 c3 c4 c5 := by
 obtain ⟨h0, h1, h2, h3, h4, h5, h6, h7, h8, h9⟩ := h;exact ⟨h0, h1, h2, h3, h4, h5, h6, h7, RepMs.on hS hw h8, RepLis.on hS hw h9⟩
theorem RepRus.on {l : List Ru} {v : Value} (h : RepRus S w l v) : RepRus S' w' l v := SlG.on hS hw (fun _ _ _ hx => RepRu.on hS hw hx) h
theorem RepDes.on {l : List De} {v : Value} (h : RepDes S w l v) : RepDes S' w' l v := SlG.on hS hw (fun _ _ _ hx => hx) h
theorem RepFa.on {x : Fa} {c0 c1 : Value} (h : RepFa S w x c0 c1) : RepFa S' w' x c0 c1 := ⟨h.1, h.2.1, RepLG.on hS hw h.2.2⟩
theorem RepFas.on {l : List Fa} {v : Value} (h : RepFas S w l v) : RepFas S' w' l v := SlG.on hS hw (fun _ _ _ hx => RepFa.on hS hw hx) h
theorem RepPr.on {x : Pr} {c0 c1 c2 : Value} (h : RepPr S w x c0 c1 c2) : RepPr S' w' x c0 c1 c2 := ⟨RepDes.on hS hw h.1, RepFas.on hS hw h.2.1, RepRus.on hS hw h.2.2⟩
end
end Go.Proofs.YtcmlojigcgihbaaGreat
namespace Go.Proofs.YtcmlojigcgihbaaGreat
open Go.RowKit
def smallB (r : Int) : Bool := decide (97 ≤ r ∧ r ≤ 122)
def digitB (r : Int) : Bool := decide (48 ≤ r ∧ r ≤ 57)
def okAt (i : Nat) (r : Int) : Bool := smallB r || (!(decide (i = 0)) && (digitB r || (r == 95)))
def nameB (s : ByteArray) : Bool := decide (1 ≤ s.size ∧ s.size ≤ 16 ∧ ∀ i (h : i < s.size), okAt i (s[i].toNat : Int) = true)
def okText (r : Int) : Bool := decide (32 ≤ r ∧ r ≤ 126 ∧ r ≠ 34 ∧ r ≠ 92)
def textB (s : ByteArray) : Bool := decide (s.size ≤ 32 ∧ ∀ i (h : i < s.size), okText (s[i].toNat : Int) = true)
theorem okAt_high (i : Nat) (r : Int) (h : 128 ≤ r) : okAt i r = false := by
 simp only [okAt, smallB, digitB, Bool.or_eq_false_iff, Bool.and_eq_false_iff, decide_eq_false_iff_not, beq_eq_false_iff_ne, Bool.not_eq_false', decide_eq_true_eq]
 omega
theorem okText_high (r : Int) (h : 128 ≤ r) : okText r = false := by
 simp only [okText, decide_eq_false_iff_not]
 omega
theorem rune_at (s : ByteArray) (pos : Nat) (h : pos < s.size) :
  (∃ c : Nat, c < 128 ∧ Utf8.decode s pos = (c, 1) ∧ s[pos].toNat = c) ∨ (128 ≤ (Utf8.decode s pos).1 ∧ (Utf8.decode s pos).1 ≤ 2147483647 ∧ 128 ≤ s[pos].toNat) := by
 by_cases ha : (s[pos]'h).toNat < 128
 ·exact Or.inl ⟨_, ha, decode_ascii s pos h ha, rfl⟩
 ·exact Or.inr ⟨(decode_high s pos h (by omega)).1, decode_le s pos, by omega⟩
theorem nameB_true {s : ByteArray} (h1 : 1 ≤ s.size) (h2 : s.size ≤ 16) (h : ∀ i (h : i < s.size), okAt i (s[i].toNat : Int) = true) : nameB s = true := decide_eq_true ⟨h1, h2, h⟩
theorem nameB_false {s : ByteArray} {i : Nat} (h : i < s.size) (e : okAt i (s[i].toNat : Int) = false) : nameB s = false := decide_eq_false fun ⟨_, _, g⟩ => by rw [g i h] at e; cases e
theorem nameB_size {s : ByteArray} (h : s.size < 1 ∨ 16 < s.size) : nameB s = false := decide_eq_false fun ⟨_, _, _⟩ => by omega
theorem textB_true {s : ByteArray} (h2 : s.size ≤ 32) (h : ∀ i (h : i < s.size), okText (s[i].toNat : Int) = true) : textB s = true := decide_eq_true ⟨h2, h⟩
theorem textB_false {s : ByteArray} {i : Nat} (h : i < s.size) (e : okText (s[i].toNat : Int) = false) : textB s = false := decide_eq_false fun ⟨_, g⟩ => by rw [g i h] at e; cases e
theorem textB_size {s : ByteArray} (h : 32 < s.size) : textB s = false := decide_eq_false fun ⟨_, _⟩ => by omega
theorem ret_bool {a b : Bool} (h : a = b) : Ending.returned (.bool a) = .returned (.bool b) := by rw [h]
theorem small_any (r : Int) (w : World) : Calls Tryz.prog 73 #[.int .i32 r] w fun e w' => e = .returned (.bool (smallB r)) ∧ w = w' := by
 by_cases h1 : 97 ≤ r
 ·by_cases h2 : r ≤ 122
  ·have HF : Hid (smallB r = true) := decide_eq_true ⟨h1, h2⟩
   go_enter Tryz.func73, Tryz.ntmps73
   go_wp2
   go_ret
   exact ⟨ret_bool HF.out.symm, rfl⟩
  ·have HF : Hid (smallB r = false) := decide_eq_false (by omega)
   go_enter Tryz.func73, Tryz.ntmps73
   go_wp2
   go_ret
   exact ⟨ret_bool HF.out.symm, rfl⟩
 ·have HF : Hid (smallB r = false) := decide_eq_false (by omega)
  have hd : decide (97 ≤ r) = false := by simpa using h1
  go_enter Tryz.func73, Tryz.ntmps73
  go_wp2
  go_ret
  exact ⟨ret_bool HF.out.symm, rfl⟩
theorem digit_any (r : Int) (w : World) : Calls Tryz.prog 74 #[.int .i32 r] w fun e w' => e = .returned (.bool (digitB r)) ∧ w = w' := by
 by_cases h1 : 48 ≤ r
 ·by_cases h2 : r ≤ 57
  ·have HF : Hid (digitB r = true) := decide_eq_true ⟨h1, h2⟩
   go_enter Tryz.func74, Tryz.ntmps74
   go_wp2
   go_ret
   exact ⟨ret_bool HF.out.symm, rfl⟩
  ·have HF : Hid (digitB r = false) := decide_eq_false (by omega)
   go_enter Tryz.func74, Tryz.ntmps74
   go_wp2
   go_ret
   exact ⟨ret_bool HF.out.symm, rfl⟩
 ·have HF : Hid (digitB r = false) := decide_eq_false (by omega)
  have hd : decide (48 ≤ r) = false := by simpa using h1
  go_enter Tryz.func74, Tryz.ntmps74
  go_wp2
  go_ret
  exact ⟨ret_bool HF.out.symm, rfl⟩
set_option maxRecDepth 100000 in
set_option maxHeartbeats 1000000 in
theorem name_any (s : ByteArray) (w : World) (hs : s.size ≤ maxLen) :
  Calls Tryz.prog 62 #[.string s] w fun e w' => e = .returned (.bool (nameB s)) ∧ Below w.heap.size w w' := by
 unfold maxLen at hs
 by_cases hz : s.size < 1
 ·have HF := Lib.hid (nameB_size (s := s) (Or.inl hz))
  go_enter Tryz.func62, Tryz.ntmps62
  go_wp2_with fail
  go_ret
  exact ⟨ret_bool HF.out.symm, Below.refl _ _⟩
 by_cases hz2 : 16 < s.size
 ·have HF := Lib.hid (nameB_size (s := s) (Or.inr hz2))
  go_enter Tryz.func62, Tryz.ntmps62
  go_wp2_with fail
  go_ret
  exact ⟨ret_bool HF.out.symm, Below.refl _ _⟩
 have hb1 : decide ((s.size : Int) < 1) = false := by simp; omega
 have hb2 : decide (16 < (s.size : Int)) = false := by simp; omega
 go_enter Tryz.func62, Tryz.ntmps62
 go_wp2_with fail
 go_loopw [2] (fun _ w' => ∃ (pos : Nat), w' = w.iter s pos ∧ pos ≤ s.size ∧ Hid (∀ i (h : i < s.size), i < pos → okAt i (s[i].toNat : Int) = true)) (fun _ w' => s.size - w'.iterPos w.heap.size)
 case atStart => exact ⟨0, rfl, Nat.zero_le _, fun i _ hi => by omega⟩
 case round =>
  obtain ⟨pos, rfl, hpos, hok⟩ := hrel;have hbel : Below w.heap.size w (w.iter s (pos + (Utf8.decode s pos).2)) := (Below.refl _ w).alloc (Nat.le_refl _) _;have hbel0 : Below w.heap.size w (w.iter s pos) := (Below.refl _ w).alloc (Nat.le_refl _) _
  by_cases hp : pos < s.size
  ·have hnx : ∀ ty, (Instr.next (.pointer (some ⟨w.heap.size, 0, none⟩)) true ty).run Tryz.prog (w.iter s pos) = _ := fun ty => run_next_any w s pos ty hp
   have hru := rune_at s pos hp
   have HOK : Hid ((okAt pos ((Utf8.decode s pos).1 : Int) = true → okAt pos (s[pos].toNat : Int) = true ∧ (Utf8.decode s pos).2 = 1) ∧ (okAt pos ((Utf8.decode s pos).1 : Int) = false → okAt pos (s[pos].toNat : Int) = false)) := by
    show _ ∧ _
    rcases hru with ⟨c, hc, he, hcc⟩ | ⟨h1, h2, h3⟩
    ·rw [he, hcc]; exact ⟨fun h => ⟨h, rfl⟩, fun h => h⟩
    ·rw [okAt_high _ _ (by omega : (128 : Int) ≤ ((Utf8.decode s pos).1 : Int)), okAt_high _ _ (by omega : (128 : Int) ≤ (s[pos].toNat : Int))]; exact ⟨(fun h => by cases h), fun h => h⟩
   clear hru;generalize hd : Utf8.decode s pos = d at *;obtain ⟨r, wd⟩ := d;clear hd
   dsimp only at hnx HOK hbel
   cases h1 : smallB (r : Int) with
   | true =>
    have HK : Hid (okAt pos (r : Int) = true) := by show _ = _; simp [okAt, h1]
    go_wp2_with (first | (go_at_call 73; refine (small_any _ _).mono ?_; rintro e w' ⟨rfl, rfl⟩) | (go_at_call 74; refine (digit_any _ _).mono ?_; rintro e w' ⟨rfl, rfl⟩))
    go_roundw
    case rel =>
     obtain ⟨g1, g2⟩ := HOK.out.1 HK.out;refine ⟨pos + wd, rfl, by omega, fun i hi hi2 => ?_⟩
     by_cases e : i = pos
     ·subst e; exact g1
     ·exact hok.out i hi (by omega)
    case measure =>
     obtain ⟨g1, g2⟩ := HOK.out.1 HK.out;simp
     omega
   | false =>
   by_cases h2 : pos = 0
   ·have HK : Hid (okAt pos (r : Int) = false) := by show _ = _; simp [okAt, h1, h2]
    have h2' : ((pos : Int) == 0) = true := by simp [h2]
    clear h2;go_wp2_with (first | (go_at_call 73; refine (small_any _ _).mono ?_; rintro e w' ⟨rfl, rfl⟩) | (go_at_call 74; refine (digit_any _ _).mono ?_; rintro e w' ⟨rfl, rfl⟩))
    go_ret
    exact ⟨ret_bool (nameB_false hp (HOK.out.2 HK.out)).symm, hbel⟩
   have h2' : ((pos : Int) == 0) = false := by simp [h2]
   cases h3 : digitB (r : Int) with
   | true =>
    have HK : Hid (okAt pos (r : Int) = true) := by show _ = _; simp [okAt, h1, h2, h3]
    clear h2;go_wp2_with (first | (go_at_call 73; refine (small_any _ _).mono ?_; rintro e w' ⟨rfl, rfl⟩) | (go_at_call 74; refine (digit_any _ _).mono ?_; rintro e w' ⟨rfl, rfl⟩))
    go_roundw
    case rel =>
     obtain ⟨g1, g2⟩ := HOK.out.1 HK.out;refine ⟨pos + wd, rfl, by omega, fun i hi hi2 => ?_⟩
     by_cases e : i = pos
     ·subst e; exact g1
     ·exact hok.out i hi (by omega)
    case measure =>
     obtain ⟨g1, g2⟩ := HOK.out.1 HK.out;simp
     omega
   | false =>
   by_cases h4 : (r : Int) = 95
   ·have HK : Hid (okAt pos (r : Int) = true) := by show _ = _; simp [okAt, h2, h4]
    have h4' : ((r : Int) != 95) = false := by simp [h4]
    clear h2 h4;go_wp2_with (first | (go_at_call 73; refine (small_any _ _).mono ?_; rintro e w' ⟨rfl, rfl⟩) | (go_at_call 74; refine (digit_any _ _).mono ?_; rintro e w' ⟨rfl, rfl⟩))
    go_roundw
    case rel =>
     obtain ⟨g1, g2⟩ := HOK.out.1 HK.out;refine ⟨pos + wd, rfl, by omega, fun i hi hi2 => ?_⟩
     by_cases e : i = pos
     ·subst e; exact g1
     ·exact hok.out i hi (by omega)
    case measure =>
     obtain ⟨g1, g2⟩ := HOK.out.1 HK.out;simp
     omega
   ·have HK : Hid (okAt pos (r : Int) = false) := by show _ = _; simp [okAt, h1, h3, h4]
    have h4' : ((r : Int) != 95) = true := by simp [h4]
    clear h2 h4;go_wp2_with (first | (go_at_call 73; refine (small_any _ _).mono ?_; rintro e w' ⟨rfl, rfl⟩) | (go_at_call 74; refine (digit_any _ _).mono ?_; rintro e w' ⟨rfl, rfl⟩))
    go_ret
    exact ⟨ret_bool (nameB_false hp (HOK.out.2 HK.out)).symm, hbel⟩
  ·have hnx : ∀ ty, (Instr.next (.pointer (some ⟨w.heap.size, 0, none⟩)) true ty).run Tryz.prog (w.iter s pos) = _ := fun ty => run_next_end w s pos ty hp
   have HF := Lib.hid (nameB_true (s := s) (by omega) (by omega) (fun i hi => hok.out i hi (by omega)));go_wp2_with fail
   go_ret
   exact ⟨ret_bool HF.out.symm, hbel0⟩
set_option maxRecDepth 100000 in
set_option maxHeartbeats 1000000 in
theorem rightText_any (s : ByteArray) (w : World) (hs : s.size ≤ maxLen) :
  Calls Tryz.prog 76 #[.string s] w fun e w' => e = .returned (.bool (textB s)) ∧ Below w.heap.size w w' := by
 unfold maxLen at hs
 by_cases hz2 : 32 < s.size
 ·have HF := Lib.hid (textB_size (s := s) hz2)
  go_enter Tryz.func76, Tryz.ntmps76
  go_wp2_with fail
  go_ret
  exact ⟨ret_bool HF.out.symm, Below.refl _ _⟩
 have hb2 : decide (32 < (s.size : Int)) = false := by simp; omega
 go_enter Tryz.func76, Tryz.ntmps76
 go_wp2_with fail
 go_loopw [2] (fun _ w' => ∃ (pos : Nat), w' = w.iter s pos ∧ pos ≤ s.size ∧ Hid (∀ i (h : i < s.size), i < pos → okText (s[i].toNat : Int) = true)) (fun _ w' => s.size - w'.iterPos w.heap.size)
 case atStart => exact ⟨0, rfl, Nat.zero_le _, fun i _ hi => by omega⟩
 case round =>
  obtain ⟨pos, rfl, hpos, hok⟩ := hrel;have hbel : Below w.heap.size w (w.iter s (pos + (Utf8.decode s pos).2)) := (Below.refl _ w).alloc (Nat.le_refl _) _;have hbel0 : Below w.heap.size w (w.iter s pos) := (Below.refl _ w).alloc (Nat.le_refl _) _
  by_cases hp : pos < s.size
  ·have hnx : ∀ ty, (Instr.next (.pointer (some ⟨w.heap.size, 0, none⟩)) true ty).run Tryz.prog (w.iter s pos) = _ := fun ty => run_next_any w s pos ty hp
   have hru := rune_at s pos hp
   have HOK : Hid ((okText ((Utf8.decode s pos).1 : Int) = true → okText (s[pos].toNat : Int) = true ∧ (Utf8.decode s pos).2 = 1) ∧ (okText ((Utf8.decode s pos).1 : Int) = false → okText (s[pos].toNat : Int) = false)) := by
    show _ ∧ _
    rcases hru with ⟨c, hc, he, hcc⟩ | ⟨h1, h2, h3⟩
    ·rw [he, hcc]; exact ⟨fun h => ⟨h, rfl⟩, fun h => h⟩
    ·rw [okText_high _ (by omega : (128 : Int) ≤ ((Utf8.decode s pos).1 : Int)), okText_high _ (by omega : (128 : Int) ≤ (s[pos].toNat : Int))]; exact ⟨(fun h => by cases h), fun h => h⟩
   clear hru;generalize hd : Utf8.decode s pos = d at *;obtain ⟨r, wd⟩ := d;clear hd
   dsimp only at hnx HOK hbel
   by_cases h1 : (r : Int) < 32
   ·have HK : Hid (okText (r : Int) = false) := decide_eq_false (by omega)
    have h1' : decide ((r : Int) < 32) = true := by simpa using h1
    go_wp2_with fail
    go_ret
    exact ⟨ret_bool (textB_false hp (HOK.out.2 HK.out)).symm, hbel⟩
   have h1' : decide ((r : Int) < 32) = false := by simpa using h1
   by_cases h2 : 126 < (r : Int)
   ·have HK : Hid (okText (r : Int) = false) := decide_eq_false (by omega)
    have h2' : decide (126 < (r : Int)) = true := by simpa using h2
    go_wp2_with fail
    go_ret
    exact ⟨ret_bool (textB_false hp (HOK.out.2 HK.out)).symm, hbel⟩
   have h2' : decide (126 < (r : Int)) = false := by simpa using h2
   by_cases h3 : (r : Int) = 34
   ·have HK : Hid (okText (r : Int) = false) := decide_eq_false (by omega)
    have h3' : ((r : Int) == 34) = true := by simp [h3]
    clear h3;go_wp2_with fail
    go_ret
    exact ⟨ret_bool (textB_false hp (HOK.out.2 HK.out)).symm, hbel⟩
   have h3' : ((r : Int) == 34) = false := by simp [h3]
   by_cases h4 : (r : Int) = 92
   ·have HK : Hid (okText (r : Int) = false) := decide_eq_false (by omega)
    have h4' : ((r : Int) == 92) = true := by simp [h4]
    clear h3 h4;go_wp2_with fail
    go_ret
    exact ⟨ret_bool (textB_false hp (HOK.out.2 HK.out)).symm, hbel⟩
   ·have HK : Hid (okText (r : Int) = true) := decide_eq_true (by omega)
    have h4' : ((r : Int) == 92) = false := by simp [h4]
    clear h3 h4;go_wp2_with fail
    go_roundw
    case rel =>
     obtain ⟨g1, g2⟩ := HOK.out.1 HK.out;refine ⟨pos + wd, rfl, by omega, fun i hi hi2 => ?_⟩
     by_cases e : i = pos
     ·subst e; exact g1
     ·exact hok.out i hi (by omega)
    case measure =>
     obtain ⟨g1, g2⟩ := HOK.out.1 HK.out;simp
     omega
  ·have hnx : ∀ ty, (Instr.next (.pointer (some ⟨w.heap.size, 0, none⟩)) true ty).run Tryz.prog (w.iter s pos) = _ := fun ty => run_next_end w s pos ty hp
   have HF := Lib.hid (textB_true (s := s) (by omega) (fun i hi => hok.out i hi (by omega)));go_wp2_with fail
   go_ret
   exact ⟨ret_bool HF.out.symm, hbel0⟩
end Go.Proofs.YtcmlojigcgihbaaGreat
