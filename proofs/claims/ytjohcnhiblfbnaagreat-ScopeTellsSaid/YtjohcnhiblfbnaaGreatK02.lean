/-
  Term, TermAt, OwnK
-/
import Derived.Test.YtjohcnhiblfbnaaGreatK01
namespace Go.Proofs.YtjohcnhiblfbnaaGreat
open Go.RowKit
def SlG {α : Type} (S : Nat → Prop) (w : World) (n bytes : Nat) (R : α → (Nat → Value) → Prop) (l : List α) (v : Value) : Prop :=
 ∃ (a : Option Addr) (b o cap : Nat), v = .slice a l.length cap ∧ l.length ≤ cap ∧ l.length * bytes ≤ 140737488355328 ∧ (0 < cap → a = some ⟨b, o, none⟩) ∧ (0 < l.length → S b) ∧
  ∀ i (h : i < l.length), ∃ c : Nat → Value, (∀ j, j < n → w.cell? ⟨b, o + i * n + j, none⟩ = some (c j)) ∧ R l[i] c
theorem SlG.on {α : Type} {S S' : Nat → Prop} {w w' : World} {n bytes : Nat} {R R' : α → (Nat → Value) → Prop} {l : List α} {v : Value} (hS : ∀ k, S k → S' k) (hw : ∀ k, S k → w'.heap[k]? = w.heap[k]?) (hR : ∀ x ∈ l, ∀ c, R x c → R' x c) (h : SlG S w n bytes R l v) : SlG S' w' n bytes R' l v := by
 obtain ⟨a, b, o, cap, e, h6, h7, h8, h9, h10⟩ := h;refine ⟨a, b, o, cap, e, h6, h7, h8, fun h => hS _ (h9 h), fun i hi => ?_⟩;obtain ⟨c, hc, hr⟩ := h10 i hi;have hb : S b := h9 (by omega);exact ⟨c, fun j hj => (World.cell?_of_block (w := w) (hw b hb)).trans (hc j hj), hR _ (List.getElem_mem hi) c hr⟩
theorem SlG.form {α : Type} {S : Nat → Prop} {w : World} {n bytes : Nat} {R : α → (Nat → Value) → Prop} {l : List α} {v : Value} (h : SlG S w n bytes R l v) : ∃ (a : Option Addr) (cap : Nat), v = .slice a l.length cap := by
 obtain ⟨a, b, o, cap, e, -⟩ := h;exact ⟨a, cap, e⟩
theorem SlG.at {α : Type} {S : Nat → Prop} {w : World} {n bytes : Nat} {R : α → (Nat → Value) → Prop} {l : List α} {a : Option Addr} {len cap : Nat} (h : SlG S w n bytes R l (.slice a len cap)) (i : Nat) (hi : i < l.length) :
  len = l.length ∧ l.length ≤ cap ∧ ∃ (b o : Nat), a = some ⟨b, o, none⟩ ∧ S b ∧ ∃ c : Nat → Value, (∀ j, j < n → w.cell? ⟨b, o + i * n + j, none⟩ = some (c j)) ∧ R l[i] c := by
 obtain ⟨a', b, o, cap', e, h6, h7, h8, h9, h10⟩ := h
 cases e
 exact ⟨rfl, h6, b, o, h8 (by omega), h9 (by omega), h10 i hi⟩
theorem SlG.bytes {α : Type} {S : Nat → Prop} {w : World} {n bytes : Nat} {R : α → (Nat → Value) → Prop} {l : List α} {v : Value} (h : SlG S w n bytes R l v) : l.length * bytes ≤ 140737488355328 := by
 obtain ⟨a, b, o, cap, e, h6, h7, -⟩ := h;exact h7
inductive Tm where
 | mk (kind : Int) (name : ByteArray) (val : V) (args : List Tm) : Tm
namespace Tm
def kind : Tm → Int | mk k _ _ _ => k
def name : Tm → ByteArray | mk _ s _ _ => s
def val : Tm → V | mk _ _ x _ => x
def args : Tm → List Tm | mk _ _ _ l => l
end Tm
def RepM (S : Nat → Prop) (w : World) : Tm → Value → Value → Value → Value → Value → Value → Value → Prop
 | .mk k s x l, c0, c1, c2, c3, c4, c5, c6 => c0 = .int .i64 k ∧ c1 = .string s ∧ I64 k ∧ s.size ≤ maxLen ∧ RepG S w x c2 c3 c4 c5 ∧
   ∃ (a : Option Addr) (b o cap : Nat), c6 = .slice a l.length cap ∧ l.length ≤ cap ∧ l.length * 104 ≤ 140737488355328 ∧ (0 < cap → a = some ⟨b, o, none⟩) ∧ (0 < l.length → S b) ∧
    ∀ i (h : i < l.length), ∃ c : Nat → Value, (∀ j, j < 7 → w.cell? ⟨b, o + i * 7 + j, none⟩ = some (c j)) ∧ RepM S w l[i] (c 0) (c 1) (c 2) (c 3) (c 4) (c 5) (c 6)
 termination_by x => SizeOf.sizeOf x
 decreasing_by
  have := List.sizeOf_lt_of_mem (List.getElem_mem h);simp only [Tm.mk.sizeOf_spec]
  omega
def RepMs (S : Nat → Prop) (w : World) (l : List Tm) (v : Value) : Prop := SlG S w 7 104 (fun x c => RepM S w x (c 0) (c 1) (c 2) (c 3) (c 4) (c 5) (c 6)) l v
theorem repM_mk {S : Nat → Prop} {w : World} {k : Int} {s : ByteArray} {x : V} {l : List Tm} {c0 c1 c2 c3 c4 c5 c6 : Value} :
  RepM S w (.mk k s x l) c0 c1 c2 c3 c4 c5 c6 ↔ (c0 = .int .i64 k ∧ c1 = .string s ∧ I64 k ∧ s.size ≤ maxLen ∧ RepG S w x c2 c3 c4 c5 ∧ RepMs S w l c6) := by
 rw [RepM]; rfl
theorem RepM.on {S S' : Nat → Prop} {w w' : World} (hS : ∀ k, S k → S' k) (hw : ∀ k, S k → w'.heap[k]? = w.heap[k]?) : ∀ (x : Tm) {c0 c1 c2 c3 c4 c5 c6 : Value}, RepM S w x c0 c1 c2 c3 c4 c5 c6 → RepM S' w' x c0 c1 c2 c3 c4 c5 c6
 | .mk k s x l, c0, c1, c2, c3, c4, c5, c6, h => by
  rw [repM_mk] at h ⊢;obtain ⟨h0, h1, h2, h3, h4, a, b, o, cap, e, h6, h7, h8, h9, h10⟩ := h;refine ⟨h0, h1, h2, h3, RepG.on hS hw x h4, a, b, o, cap, e, h6, h7, h8, fun h => hS _ (h9 h), fun i hi => ?_⟩;obtain ⟨c, hc, hr⟩ := h10 i hi;have hb : S b := h9 (by omega);exact ⟨c, fun j hj => (World.cell?_of_block (w := w) (hw b hb)).trans (hc j hj), RepM.on hS hw l[i] hr⟩
 termination_by x => SizeOf.sizeOf x
 decreasing_by
  have := List.sizeOf_lt_of_mem (List.getElem_mem hi);simp only [Tm.mk.sizeOf_spec]
  omega
theorem RepMs.on {S S' : Nat → Prop} {w w' : World} (hS : ∀ k, S k → S' k) (hw : ∀ k, S k → w'.heap[k]? = w.heap[k]?) {l : List Tm} {v : Value} (h : RepMs S w l v) : RepMs S' w' l v :=
 SlG.on hS hw (fun x _ _ hx => RepM.on hS hw x hx) h
theorem RepM.form {S : Nat → Prop} {w : World} {x : Tm} {c0 c1 c2 c3 c4 c5 c6 : Value} (h : RepM S w x c0 c1 c2 c3 c4 c5 c6) :
  ∃ (fa : Option Addr) (fc : Nat) (ga : Option Addr) (gc : Nat), c0 = .int .i64 x.kind ∧ c1 = .string x.name ∧ c2 = .int .i64 x.val.kind ∧ c3 = .int .i64 x.val.num ∧ c4 = .string x.val.text ∧ c5 = .slice fa x.val.list.length fc ∧ c6 = .slice ga x.args.length gc := by
 cases x with
 | mk k s x l =>
  rw [repM_mk] at h;obtain ⟨h0, h1, -, -, h4, h5⟩ := h;obtain ⟨fa, fc, e2, e3, e4, e5⟩ := h4.form;obtain ⟨ga, gc, e6⟩ := SlG.form h5;exact ⟨fa, fc, ga, gc, h0, h1, e2, e3, e4, e5, e6⟩
theorem RepM.value {S : Nat → Prop} {w : World} {x : Tm} {c0 c1 c2 c3 c4 c5 c6 : Value} (h : RepM S w x c0 c1 c2 c3 c4 c5 c6) : RepG S w x.val c2 c3 c4 c5 := by
 cases x with
 | mk k s x l => exact (repM_mk.1 h).2.2.2.2.1
theorem RepM.lst {S : Nat → Prop} {w : World} {x : Tm} {c0 c1 c2 c3 c4 c5 c6 : Value} (h : RepM S w x c0 c1 c2 c3 c4 c5 c6) : RepMs S w x.args c6 := by
 cases x with
 | mk k s x l => exact (repM_mk.1 h).2.2.2.2.2
theorem RepM.bounds {S : Nat → Prop} {w : World} {x : Tm} {c0 c1 c2 c3 c4 c5 c6 : Value} (h : RepM S w x c0 c1 c2 c3 c4 c5 c6) : I64 x.kind ∧ x.name.size ≤ maxLen := by
 cases x with
 | mk k s x l => exact ⟨(repM_mk.1 h).2.2.1, (repM_mk.1 h).2.2.2.1⟩
def TmAt (S : Nat → Prop) (w : World) (x : Tm) (fa : Option Addr) (fc : Nat) (ga : Option Addr) (gc : Nat) : Prop :=
 RepM S w x (.int .i64 x.kind) (.string x.name) (.int .i64 x.val.kind) (.int .i64 x.val.num) (.string x.val.text) (.slice fa x.val.list.length fc) (.slice ga x.args.length gc)
theorem RepMs.at {S : Nat → Prop} {w : World} {l : List Tm} {a : Option Addr} {len cap : Nat} (h : RepMs S w l (.slice a len cap)) (i : Nat) (hi : i < l.length) :
  len = l.length ∧ l.length ≤ cap ∧ ∃ (b o : Nat) (fa : Option Addr) (fc : Nat) (ga : Option Addr) (gc : Nat), a = some ⟨b, o, none⟩ ∧ S b ∧
   w.cell? ⟨b, o + i * 7, none⟩ = some (.int .i64 l[i].kind) ∧ w.cell? ⟨b, o + i * 7 + 1, none⟩ = some (.string l[i].name) ∧ w.cell? ⟨b, o + i * 7 + 2, none⟩ = some (.int .i64 l[i].val.kind) ∧ w.cell? ⟨b, o + i * 7 + 3, none⟩ = some (.int .i64 l[i].val.num) ∧
   w.cell? ⟨b, o + i * 7 + 4, none⟩ = some (.string l[i].val.text) ∧ w.cell? ⟨b, o + i * 7 + 5, none⟩ = some (.slice fa l[i].val.list.length fc) ∧ w.cell? ⟨b, o + i * 7 + 6, none⟩ = some (.slice ga l[i].args.length gc) ∧ TmAt S w l[i] fa fc ga gc := by
 obtain ⟨h1, h2, b, o, h3, h4, c, hc, hr⟩ := SlG.at h i hi;obtain ⟨fa, fc, ga, gc, e0, e1, e2, e3, e4, e5, e6⟩ := hr.form;rw [e0, e1, e2, e3, e4, e5, e6] at hr;exact ⟨h1, h2, b, o, fa, fc, ga, gc, h3, h4, by rw [← e0]; exact hc 0 (by omega), by rw [← e1]; exact hc 1 (by omega), by rw [← e2]; exact hc 2 (by omega), by rw [← e3]; exact hc 3 (by omega), by rw [← e4]; exact hc 4 (by omega), by rw [← e5]; exact hc 5 (by omega), by rw [← e6]; exact hc 6 (by omega), hr⟩
structure Li where
 kind : Int
 name : ByteArray
 args : List Tm
def RepLi (S : Nat → Prop) (w : World) (x : Li) (c0 c1 c2 : Value) : Prop := c0 = .int .i64 x.kind ∧ c1 = .string x.name ∧ I64 x.kind ∧ x.name.size ≤ maxLen ∧ RepMs S w x.args c2
def RepLis (S : Nat → Prop) (w : World) (l : List Li) (v : Value) : Prop := SlG S w 3 48 (fun x c => RepLi S w x (c 0) (c 1) (c 2)) l v
structure Ru where
 label : ByteArray
 head : ByteArray
 args : List Tm
 agg : ByteArray
 at' : Int
 body : List Li
def RepRu (S : Nat → Prop) (w : World) (x : Ru) (c0 c1 c2 c3 c4 c5 : Value) : Prop := c0 = .string x.label ∧ c1 = .string x.head ∧ c3 = .string x.agg ∧ c4 = .int .i64 x.at' ∧ x.label.size ≤ maxLen ∧ x.head.size ≤ maxLen ∧ x.agg.size ≤ maxLen ∧ I64 x.at' ∧ RepMs S w x.args c2 ∧ RepLis S w x.body c5
def RepRus (S : Nat → Prop) (w : World) (l : List Ru) (v : Value) : Prop := SlG S w 6 104 (fun x c => RepRu S w x (c 0) (c 1) (c 2) (c 3) (c 4) (c 5)) l v
structure De where
 name : ByteArray
 arity : Int
def RepDe (_S : Nat → Prop) (_w : World) (x : De) (c0 c1 : Value) : Prop := c0 = .string x.name ∧ c1 = .int .i64 x.arity ∧ x.name.size ≤ maxLen ∧ I64 x.arity
def RepDes (S : Nat → Prop) (w : World) (l : List De) (v : Value) : Prop := SlG S w 2 24 (fun x c => RepDe S w x (c 0) (c 1)) l v
structure Fa where
 name : ByteArray
 args : List V
def RepFa (S : Nat → Prop) (w : World) (x : Fa) (c0 c1 : Value) : Prop := c0 = .string x.name ∧ x.name.size ≤ maxLen ∧ RepLG S w x.args c1
def RepFas (S : Nat → Prop) (w : World) (l : List Fa) (v : Value) : Prop := SlG S w 2 40 (fun x c => RepFa S w x (c 0) (c 1)) l v
structure Pr where
 decls : List De
 facts : List Fa
 rules : List Ru
def RepPr (S : Nat → Prop) (w : World) (x : Pr) (c0 c1 c2 : Value) : Prop := RepDes S w x.decls c0 ∧ RepFas S w x.facts c1 ∧ RepRus S w x.rules c2
section
variable {S S' : Nat → Prop} {w w' : World} (hS : ∀ k, S k → S' k) (hw : ∀ k, S k → w'.heap[k]? = w.heap[k]?)
include hS hw
theorem RepLi.on {x : Li} {c0 c1 c2 : Value} (h : RepLi S w x c0 c1 c2) : RepLi S' w' x c0 c1 c2 := ⟨h.1, h.2.1, h.2.2.1, h.2.2.2.1, RepMs.on hS hw h.2.2.2.2⟩
theorem RepLis.on {l : List Li} {v : Value} (h : RepLis S w l v) : RepLis S' w' l v := SlG.on hS hw (fun _ _ _ hx => RepLi.on hS hw hx) h
theorem RepRu.on {x : Ru} {c0 c1 c2 c3 c4 c5 : Value} (h : RepRu S w x c0 c1 c2 c3 c4 c5) : RepRu S' w' x c0 c1 c2 c3 c4 c5 := by
 obtain ⟨h0, h1, h2, h3, h4, h5, h6, h7, h8, h9⟩ := h;exact ⟨h0, h1, h2, h3, h4, h5, h6, h7, RepMs.on hS hw h8, RepLis.on hS hw h9⟩
theorem RepRus.on {l : List Ru} {v : Value} (h : RepRus S w l v) : RepRus S' w' l v := SlG.on hS hw (fun _ _ _ hx => RepRu.on hS hw hx) h
theorem RepDes.on {l : List De} {v : Value} (h : RepDes S w l v) : RepDes S' w' l v := SlG.on hS hw (fun _ _ _ hx => hx) h
theorem RepFa.on {x : Fa} {c0 c1 : Value} (h : RepFa S w x c0 c1) : RepFa S' w' x c0 c1 := ⟨h.1, h.2.1, RepLG.on hS hw h.2.2⟩
theorem RepFas.on {l : List Fa} {v : Value} (h : RepFas S w l v) : RepFas S' w' l v := SlG.on hS hw (fun _ _ _ hx => RepFa.on hS hw hx) h
theorem RepPr.on {x : Pr} {c0 c1 c2 : Value} (h : RepPr S w x c0 c1 c2) : RepPr S' w' x c0 c1 c2 := ⟨RepDes.on hS hw h.1, RepFas.on hS hw h.2.1, RepRus.on hS hw h.2.2⟩
end
end Go.Proofs.YtjohcnhiblfbnaaGreat
namespace Go.Proofs.YtjohcnhiblfbnaaGreat
open Go.RowKit
theorem RepLi.form {S : Nat → Prop} {w : World} {x : Li} {c0 c1 c2 : Value} (h : RepLi S w x c0 c1 c2) : ∃ (ga : Option Addr) (gc : Nat), c0 = .int .i64 x.kind ∧ c1 = .string x.name ∧ c2 = .slice ga x.args.length gc := by
 obtain ⟨h0, h1, -, -, h4⟩ := h;obtain ⟨ga, gc, e⟩ := SlG.form h4;exact ⟨ga, gc, h0, h1, e⟩
theorem RepLis.at {S : Nat → Prop} {w : World} {l : List Li} {a : Option Addr} {len cap : Nat} (h : RepLis S w l (.slice a len cap)) (i : Nat) (hi : i < l.length) :
  len = l.length ∧ l.length ≤ cap ∧ ∃ (b o : Nat) (ga : Option Addr) (gc : Nat), a = some ⟨b, o, none⟩ ∧ S b ∧ w.cell? ⟨b, o + i * 3, none⟩ = some (.int .i64 l[i].kind) ∧ w.cell? ⟨b, o + i * 3 + 1, none⟩ = some (.string l[i].name) ∧ w.cell? ⟨b, o + i * 3 + 2, none⟩ = some (.slice ga l[i].args.length gc) ∧ RepLi S w l[i] (.int .i64 l[i].kind) (.string l[i].name) (.slice ga l[i].args.length gc) := by
 obtain ⟨h1, h2, b, o, h3, h4, c, hc, hr⟩ := SlG.at h i hi;obtain ⟨ga, gc, e0, e1, e2⟩ := hr.form;rw [e0, e1, e2] at hr;exact ⟨h1, h2, b, o, ga, gc, h3, h4, by rw [← e0]; exact hc 0 (by omega), by rw [← e1]; exact hc 1 (by omega), by rw [← e2]; exact hc 2 (by omega), hr⟩
theorem RepDe.form {S : Nat → Prop} {w : World} {x : De} {c0 c1 : Value} (h : RepDe S w x c0 c1) : c0 = .string x.name ∧ c1 = .int .i64 x.arity := by
 exact ⟨h.1, h.2.1⟩
theorem RepDes.at {S : Nat → Prop} {w : World} {l : List De} {a : Option Addr} {len cap : Nat} (h : RepDes S w l (.slice a len cap)) (i : Nat) (hi : i < l.length) :
  len = l.length ∧ l.length ≤ cap ∧ ∃ (b o : Nat) , a = some ⟨b, o, none⟩ ∧ S b ∧ w.cell? ⟨b, o + i * 2, none⟩ = some (.string l[i].name) ∧ w.cell? ⟨b, o + i * 2 + 1, none⟩ = some (.int .i64 l[i].arity) ∧ RepDe S w l[i] (.string l[i].name) (.int .i64 l[i].arity) := by
 obtain ⟨h1, h2, b, o, h3, h4, c, hc, hr⟩ := SlG.at h i hi;obtain ⟨e0, e1⟩ := hr.form;rw [e0, e1] at hr;exact ⟨h1, h2, b, o, h3, h4, by rw [← e0]; exact hc 0 (by omega), by rw [← e1]; exact hc 1 (by omega), hr⟩
theorem RepFa.form {S : Nat → Prop} {w : World} {x : Fa} {c0 c1 : Value} (h : RepFa S w x c0 c1) : ∃ (ga : Option Addr) (gc : Nat), c0 = .string x.name ∧ c1 = .slice ga x.args.length gc := by
 obtain ⟨ga, -, -, gc, e, -⟩ := id h.2.2;exact ⟨ga, gc, h.1, e⟩
theorem RepFas.at {S : Nat → Prop} {w : World} {l : List Fa} {a : Option Addr} {len cap : Nat} (h : RepFas S w l (.slice a len cap)) (i : Nat) (hi : i < l.length) :
  len = l.length ∧ l.length ≤ cap ∧ ∃ (b o : Nat) (ga : Option Addr) (gc : Nat), a = some ⟨b, o, none⟩ ∧ S b ∧ w.cell? ⟨b, o + i * 2, none⟩ = some (.string l[i].name) ∧ w.cell? ⟨b, o + i * 2 + 1, none⟩ = some (.slice ga l[i].args.length gc) ∧ RepFa S w l[i] (.string l[i].name) (.slice ga l[i].args.length gc) := by
 obtain ⟨h1, h2, b, o, h3, h4, c, hc, hr⟩ := SlG.at h i hi;obtain ⟨ga, gc, e0, e1⟩ := hr.form;rw [e0, e1] at hr;exact ⟨h1, h2, b, o, ga, gc, h3, h4, by rw [← e0]; exact hc 0 (by omega), by rw [← e1]; exact hc 1 (by omega), hr⟩
theorem RepRu.form {S : Nat → Prop} {w : World} {x : Ru} {c0 c1 c2 c3 c4 c5 : Value} (h : RepRu S w x c0 c1 c2 c3 c4 c5) : ∃ (fa : Option Addr) (fc : Nat) (ga : Option Addr) (gc : Nat), c0 = .string x.label ∧ c1 = .string x.head ∧ c2 = .slice fa x.args.length fc ∧ c3 = .string x.agg ∧ c4 = .int .i64 x.at' ∧ c5 = .slice ga x.body.length gc := by
 obtain ⟨h0, h1, h3, h4, -, -, -, -, h8, h9⟩ := h;obtain ⟨fa, fc, e⟩ := SlG.form h8;obtain ⟨ga, gc, e'⟩ := SlG.form h9;exact ⟨fa, fc, ga, gc, h0, h1, e, h3, h4, e'⟩
theorem RepRus.at {S : Nat → Prop} {w : World} {l : List Ru} {a : Option Addr} {len cap : Nat} (h : RepRus S w l (.slice a len cap)) (i : Nat) (hi : i < l.length) :
  len = l.length ∧ l.length ≤ cap ∧ ∃ (b o : Nat) (fa : Option Addr) (fc : Nat) (ga : Option Addr) (gc : Nat), a = some ⟨b, o, none⟩ ∧ S b ∧ w.cell? ⟨b, o + i * 6, none⟩ = some (.string l[i].label) ∧ w.cell? ⟨b, o + i * 6 + 1, none⟩ = some (.string l[i].head) ∧ w.cell? ⟨b, o + i * 6 + 2, none⟩ = some (.slice fa l[i].args.length fc) ∧ w.cell? ⟨b, o + i * 6 + 3, none⟩ = some (.string l[i].agg) ∧ w.cell? ⟨b, o + i * 6 + 4, none⟩ = some (.int .i64 l[i].at') ∧ w.cell? ⟨b, o + i * 6 + 5, none⟩ = some (.slice ga l[i].body.length gc) ∧ RepRu S w l[i] (.string l[i].label) (.string l[i].head) (.slice fa l[i].args.length fc) (.string l[i].agg) (.int .i64 l[i].at') (.slice ga l[i].body.length gc) := by
 obtain ⟨h1, h2, b, o, h3, h4, c, hc, hr⟩ := SlG.at h i hi;obtain ⟨fa, fc, ga, gc, e0, e1, e2, e3, e4, e5⟩ := hr.form;rw [e0, e1, e2, e3, e4, e5] at hr;exact ⟨h1, h2, b, o, fa, fc, ga, gc, h3, h4, by rw [← e0]; exact hc 0 (by omega), by rw [← e1]; exact hc 1 (by omega), by rw [← e2]; exact hc 2 (by omega), by rw [← e3]; exact hc 3 (by omega), by rw [← e4]; exact hc 4 (by omega), by rw [← e5]; exact hc 5 (by omega), hr⟩
end Go.Proofs.YtjohcnhiblfbnaaGreat
namespace Go.Proofs.YtjohcnhiblfbnaaGreat
open Go.RowKit
structure Kd (α : Type) where
 T : TypeId
 ST : TypeId
 n : Nat
 bytes : Nat
 R : (Nat → Prop) → World → α → (Nat → Value) → Prop
 pos : 0 < n
 few : bytes ≤ 1000
 on : ∀ {S S' : Nat → Prop} {w w' : World} {x : α} {c : Nat → Value}, (∀ k, S k → S' k) → (∀ k, S k → w'.heap[k]? = w.heap[k]?) → R S w x c → R S' w' x c
 one : ∀ {S : Nat → Prop} {w : World} {x : α} {c : Nat → Value}, R S w x c → ∀ j, j < n → (c j).oneCell' = true
 und : Tryz.prog.underlying ST = some (.slice T)
 info : ∃ (i : TypeInfo) (z : Value), Tryz.prog.info? T = some i ∧ i.zero = some z ∧ i.size = n ∧ i.bytes = bytes ∧ z.cells.size = n
theorem ownsRow_on {w w' : World} {base : Nat} {e : TypeId} {n k : Nat} {v : Value} {xs : List Value} (h : w.ownsRow base e n v k xs) (hw : ∀ g, base ≤ g → g < w.heap.size → v.ownBlock = some g → w'.heap[g]? = w.heap[g]?) : w'.ownsRow base e n v k xs := by
 refine ⟨h.1, ?_⟩;rcases h.2 with hn | ⟨g, cap, cur, hv, hb, hg, rest⟩
 ·exact .inl hn
 ·subst hv
  exact .inr ⟨g, cap, cur, rfl, hb, (hw g hb (Array.getElem?_eq_some_iff.1 hg).1 rfl).trans hg, rest⟩
theorem ownsRow_down {w : World} {base base' : Nat} {e : TypeId} {n k : Nat} {v : Value} {xs : List Value} (h : w.ownsRow base e n v k xs) (hb : base' ≤ base) : w.ownsRow base' e n v k xs := by
 refine ⟨h.1, ?_⟩;rcases h.2 with hn | ⟨g, cap, cur, hv, hg, rest⟩
 ·exact .inl hn
 ·exact .inr ⟨g, cap, cur, hv, Nat.le_trans hb hg, rest⟩
section
variable {α : Type} (K : Kd α)
def OwnK (S : Nat → Prop) (w : World) (base : Nat) (l : List α) (v : Value) : Prop :=
 ∃ xs, w.ownsRow base K.T K.n v l.length xs ∧ ∀ i (h : i < l.length), ∃ c : Nat → Value, (∀ j, j < K.n → xs[i * K.n + j]? = some (c j)) ∧ K.R S w l[i] c
def MineK (w : World) (base : Nat) (l : List α) (v : Value) : Prop := OwnK K (fun b => base ≤ b ∧ b < w.heap.size ∧ v.ownBlock ≠ some b) w base l v
variable {K}
theorem MineK.nil (w : World) (base : Nat) : MineK K w base [] (.slice none 0 0) := ⟨[], World.ownsRow_nil _ _ _ _, fun i hi => by simp at hi⟩
theorem OwnK.form {S : Nat → Prop} {w : World} {base : Nat} {l : List α} {v : Value} (h : OwnK K S w base l v) : ∃ a cap, v = .slice a l.length cap := by
 obtain ⟨xs, ⟨-, ho⟩, -⟩ := h;rcases ho with ⟨rfl, hn⟩ | ⟨g, cap, cur, rfl, -⟩
 ·exact ⟨none, 0, by rw [hn]⟩
 ·exact ⟨_, _, rfl⟩
theorem OwnK.lies {S : Nat → Prop} {w : World} {base : Nat} {l : List α} {v : Value} (h : OwnK K S w base l v) (k : Nat) (hk : v.ownBlock = some k) : base ≤ k ∧ k < w.heap.size := by
 obtain ⟨xs, ⟨_, hown⟩, _⟩ := h;rcases hown with ⟨rfl, hn⟩ | ⟨g, cap, cur, rfl, hbg, hh, _⟩
 ·simp [Value.ownBlock] at hk
 ·simp [Value.ownBlock] at hk
  subst hk;exact ⟨hbg, (Array.getElem?_eq_some_iff.1 hh).1⟩
theorem OwnK.on {S S' : Nat → Prop} {w w' : World} {base : Nat} {l : List α} {v : Value} (h : OwnK K S w base l v) (hS : ∀ k, S k → S' k) (hw : ∀ k, S k → w'.heap[k]? = w.heap[k]?) (ho : ∀ k, base ≤ k → k < w.heap.size → v.ownBlock = some k → w'.heap[k]? = w.heap[k]?) : OwnK K S' w' base l v := by
 obtain ⟨xs, hown, hr⟩ := h;refine ⟨xs, ownsRow_on hown ho, fun i hi => ?_⟩;obtain ⟨c, hc, hR⟩ := hr i hi;exact ⟨c, hc, K.on hS hw hR⟩
theorem MineK.kept {w w' : World} {base : Nat} {l : List α} {v : Value} (h : MineK K w base l v) (hsz : w.heap.size ≤ w'.heap.size) (hw : ∀ k, base ≤ k → k < w.heap.size → w'.heap[k]? = w.heap[k]?) : MineK K w' base l v :=
 OwnK.on h (fun k hk => ⟨hk.1, by omega, hk.2.2⟩) (fun k hk => hw k hk.1 hk.2.1) (fun k h1 h2 _ => hw k h1 h2)
theorem MineK.stands {w w' : World} {base : Nat} {l : List α} {v : Value} (h : MineK K w base l v) (hb : Below w.heap.size w w') : MineK K w' base l v :=
 h.kept hb.size (fun k _ hk => hb.block k hk)
theorem MineK.far {w : World} {base : Nat} {l : List α} {v : Value} (h : MineK K w base l v) {p : Addr} (hp : p.block < base) (c : Value) : MineK K (w.setCell p c) base l v :=
 h.kept (by simp) (fun k hk _ => Below.heap_setCell _ _ _ _ (by omega))
theorem MineK.down {w : World} {base base' : Nat} {l : List α} {v : Value} (h : MineK K w base l v) (hb : base' ≤ base) : MineK K w base' l v := by
 obtain ⟨xs, hown, hr⟩ := h;refine ⟨xs, ownsRow_down hown hb, fun i hi => ?_⟩;obtain ⟨c, hc, hR⟩ := hr i hi;exact ⟨c, hc, K.on (fun k hk => ⟨by omega, hk.2⟩) (fun _ _ => rfl) hR⟩
theorem MineK.slg {S' : Nat → Prop} {w : World} {base : Nat} {l : List α} {v : Value} (h : MineK K w base l v) (hS : ∀ k, base ≤ k → k < w.heap.size → S' k) (hl : l.length ≤ 100000) : SlG S' w K.n K.bytes (K.R S' w) l v := by
 obtain ⟨xs, ⟨hlen, hown⟩, hr⟩ := h
 have hby : l.length * K.bytes ≤ 140737488355328 := by
  have := Nat.mul_le_mul hl K.few;omega
 rcases hown with ⟨rfl, hn⟩ | ⟨g, cap, cur, rfl, hbg, hh, hnc, hcm, hcs, htk⟩
 ·obtain rfl : l = [] := List.length_eq_zero_iff.1 hn
  exact ⟨none, 0, 0, 0, rfl, Nat.le_refl _, by simp, fun h => by omega, fun h => by simp at h, fun i hi => by simp at hi⟩
 ·have hgl := (Array.getElem?_eq_some_iff.1 hh).1
  refine ⟨_, g, 0, cap, rfl, hnc, hby, fun _ => rfl, fun _ => hS g hbg hgl, fun i hi => ?_⟩;obtain ⟨c, hc, hR⟩ := hr i hi;refine ⟨c, fun j hj => ?_, K.on (fun k hk => hS k hk.1 hk.2.1) (fun _ _ => rfl) hR⟩;have h1 := hc j hj;rw [← htk, List.getElem?_take] at h1
  have hlt : i * K.n + j < l.length * K.n := by
   have : (i + 1) * K.n ≤ l.length * K.n := Nat.mul_le_mul_right _ hi;rw [Nat.succ_mul] at this; omega
  rw [if_pos hlt] at h1;rw [show 0 + i * K.n + j = i * K.n + j by omega];exact cell_of_block' hh _ (by rw [← Array.getElem?_toList]; exact h1)
theorem own_append {w : World} {base : Nat} {L : List α} {lv : Value} {y : α} {c : Nat → Value} {cs : Array Value} {b : Nat} {t : TypeId} {fz : Nat × Nat} (hown : MineK K w base L lv) (hbase : base ≤ w.heap.size) (hlen : L.length ≤ 1000)
  (hb : w.heap[b]? = some (.cells cs t fz)) (hcs : cs.size = K.n) (hc : ∀ j, j < K.n → cs[j]? = some (c j)) (hrep : K.R (fun b' => base ≤ b' ∧ b' < w.heap.size ∧ lv.ownBlock ≠ some b') w y c) (ty : TypeId) :
  ∃ (a : Option Addr) (cap : Nat) (w6 : World), (Builtin.append_ #[K.ST, K.ST] ty #[lv, .slice (some ⟨b, 0, none⟩) 1 1]).run Tryz.prog w = .ok (.slice a (L.length + 1) cap) w6 ∧
   MineK K w6 base (L ++ [y]) (.slice a (L.length + 1) cap) ∧ w.grownBy w6 lv.ownBlock := by
 obtain ⟨i0, z, hi, hz0, hz1, hz2, hz3⟩ := K.info;obtain ⟨xs, hrow, hr⟩ := hown
 have hby : (L.length + 1) * K.bytes ≤ 140737488355328 := by
  have := Nat.mul_le_mul (show L.length + 1 ≤ 1001 by omega) K.few;omega
 obtain ⟨v', w6, hrun, h1, h2, _, h5⟩ := run_append_own_at (P := Tryz.prog) w base K.ST ty K.T i0 z K.n K.bytes K.und hi hz0 hz1 hz2 hz3 K.pos lv L.length xs hrow ⟨b, 0, none⟩ 1 1 cs.toList (by simp [hcs])
  (fun j u hj => by
   have e : ((⟨b, 0, none⟩ : Addr).add j) = ⟨b, 0 + j, none⟩ := add_lit' _ _ _;rw [e, Nat.zero_add]
   exact cell_of_block' hb u (by rw [← Array.getElem?_toList]; exact hj))
  (fun u hu => by
   obtain ⟨j, hj, rfl⟩ := List.getElem_of_mem hu;have hjn : j < K.n := by rw [← hcs]; simpa using hj
   have h1 := hc j hjn;have h2 : cs[j]? = some (cs.toList[j]) := by rw [← Array.getElem?_toList]; exact List.getElem?_eq_getElem hj
   rw [Option.some.inj (h2.symm.trans h1)]
   exact K.one hrep j hjn) (by unfold maxLen; omega) hby hbase
 have hsub : ∀ k, (base ≤ k ∧ k < w.heap.size ∧ lv.ownBlock ≠ some k) → (base ≤ k ∧ k < w6.heap.size ∧ v'.ownBlock ≠ some k) := fun k hk => by
  have := h2.size;refine ⟨hk.1, by omega, fun e => ?_⟩;rcases h5 with h5 | h5
  ·exact hk.2.2 (h5.symm.trans e)
  ·rw [h5] at e; have := Option.some.inj e; omega
 have hsame : ∀ k, (base ≤ k ∧ k < w.heap.size ∧ lv.ownBlock ≠ some k) → w6.heap[k]? = w.heap[k]? := fun k hk => h2.block k hk.2.1 (fun e => hk.2.2 e.symm)
 have hm : MineK K w6 base (L ++ [y]) v' := by
  refine ⟨xs ++ cs.toList, by rw [List.length_append]; exact h1, fun i hi => ?_⟩
  by_cases hlt : i < L.length
  ·obtain ⟨c', hc', hR⟩ := hr i hlt
   refine ⟨c', fun j hj => ?_, by rw [List.getElem_append_left hlt]; exact K.on hsub hsame hR⟩
   have hil : i * K.n + j < xs.length := by
    rw [hrow.1];have : (i + 1) * K.n ≤ L.length * K.n := Nat.mul_le_mul_right _ hlt;rw [Nat.succ_mul] at this; omega
   rw [List.getElem?_append_left hil]; exact hc' j hj
  ·obtain rfl : i = L.length := by simp at hi; omega
   refine ⟨c, fun j hj => ?_, by rw [List.getElem_append_right (Nat.le_refl _)]; simpa using K.on hsub hsame hrep⟩;rw [List.getElem?_append_right (by rw [hrow.1]; omega), hrow.1, show L.length * K.n + j - L.length * K.n = j by omega, Array.getElem?_toList];exact hc j hj
 obtain ⟨a, cap, rfl⟩ := OwnK.form hm;rw [List.length_append] at hrun hm;exact ⟨a, cap, w6, hrun, hm, h2⟩
theorem mk_append {w4 w5 : World} {base : Nat} {L : List α} {lv : Value} {y : α} {c : Nat → Value} {cs : Array Value} (hown : MineK K w4 base L lv) (hbase : base ≤ w4.heap.size) (hlen : L.length ≤ 1000)
  (hb : Below w4.heap.size w4 w5) (hcs : cs.size = K.n) (hc : ∀ j, j < K.n → cs[j]? = some (c j)) (hrep : K.R (fun b => w4.heap.size ≤ b ∧ b < w5.heap.size) w5 y c) (ty : TypeId) :
  ∃ (a : Option Addr) (cap : Nat) (w6 : World), (Builtin.append_ #[K.ST, K.ST] ty #[lv, .slice (some ⟨w5.heap.size, 0, none⟩) 1 1]).run Tryz.prog (w5.alloc (.cells cs K.T)) = .ok (.slice a (L.length + 1) cap) w6 ∧
   MineK K w6 base (L ++ [y]) (.slice a (L.length + 1) cap) ∧ Below base w4 w6 ∧ (∀ k, k < w4.heap.size → lv.ownBlock ≠ some k → w6.heap[k]? = w4.heap[k]?) := by
 have hbW := Below.step hb (below_alloc w5 (.cells cs K.T));have hsW := World.size_alloc w5 (.cells cs K.T);have hnew := alloc_new' w5 (.cells cs K.T);have hold : ∀ b, b < w5.heap.size → (w5.alloc (.cells cs K.T)).heap[b]? = w5.heap[b]? := fun b hb => Below.heap_alloc _ _ _ hb
 generalize w5.alloc (.cells cs K.T) = W at *;have hs5 := hb.size;have hm := hown.stands hbW;obtain ⟨a, cap, w6, hrun, ho, hg⟩ := own_append hm (by omega) hlen hnew hcs hc (K.on (fun k hk => ⟨by omega, by omega, fun e => by have := (OwnK.lies hown k e).2; omega⟩) (fun k hk => hold k hk.2) hrep) ty;have hgs := hg.size;refine ⟨a, cap, w6, hrun, ho, ?_, ?_⟩
 ·refine ⟨hg.os.trans hbW.os, hg.tape.trans hbW.tape, hg.output.trans hbW.output, by omega, fun k hk => ?_⟩
  exact (hg.block k (by omega) (fun e => by have := (OwnK.lies hown k e.symm).1; omega)).trans (hbW.block k (by omega))
 ·intro k hk hne
  exact (hg.block k (by omega) (fun e => hne e.symm)).trans (hbW.block k hk)
end
theorem info_of {T : TypeId} {n bytes : Nat} (h : (Tryz.prog.info? T).map (fun i => (i.zero.map (fun z => z.cells.size), i.size, i.bytes)) = some (some n, n, bytes)) : ∃ (i : TypeInfo) (z : Value), Tryz.prog.info? T = some i ∧ i.zero = some z ∧ i.size = n ∧ i.bytes = bytes ∧ z.cells.size = n := by
 match hi : Tryz.prog.info? T, h with
 | some i, h =>
  simp only [Option.map_some, Option.some.injEq, Prod.mk.injEq] at h
  obtain ⟨h1, h2, h3⟩ := h
  match hz : i.zero, h1 with
  | some z, h1 => exact ⟨i, z, rfl, hz, h2, h3, by simpa using h1⟩
def kdTm : Kd Tm where
 T := 34
 ST := 32
 n := 7
 bytes := 104
 R := fun S w x c => RepM S w x (c 0) (c 1) (c 2) (c 3) (c 4) (c 5) (c 6)
 pos := by omega
 few := by omega
 on := fun hS hw h => RepM.on hS hw _ h
 one := fun h j hj => by
  obtain ⟨fa, fc, ga, gc, e0, e1, e2, e3, e4, e5, e6⟩ := h.form
  match j, hj with
  | 0, _ => rw [e0]; rfl
  | 1, _ => rw [e1]; rfl
  | 2, _ => rw [e2]; rfl
  | 3, _ => rw [e3]; rfl
  | 4, _ => rw [e4]; rfl
  | 5, _ => rw [e5]; rfl
  | 6, _ => rw [e6]; rfl
 und := Tryz.underlying32
 info := info_of (by kernel_rfl)
def kdLi : Kd Li where
 T := 63
 ST := 59
 n := 3
 bytes := 48
 R := fun S w x c => RepLi S w x (c 0) (c 1) (c 2)
 pos := by omega
 few := by omega
 on := fun hS hw h => RepLi.on hS hw h
 one := fun h j hj => by
  obtain ⟨ga, gc, e0, e1, e2⟩ := h.form
  match j, hj with
  | 0, _ => rw [e0]; rfl
  | 1, _ => rw [e1]; rfl
  | 2, _ => rw [e2]; rfl
 und := Tryz.underlying59
 info := info_of (by kernel_rfl)
def kdRu : Kd Ru where
 T := 61
 ST := 24
 n := 6
 bytes := 104
 R := fun S w x c => RepRu S w x (c 0) (c 1) (c 2) (c 3) (c 4) (c 5)
 pos := by omega
 few := by omega
 on := fun hS hw h => RepRu.on hS hw h
 one := fun h j hj => by
  obtain ⟨fa, fc, ga, gc, e0, e1, e2, e3, e4, e5⟩ := h.form
  match j, hj with
  | 0, _ => rw [e0]; rfl
  | 1, _ => rw [e1]; rfl
  | 2, _ => rw [e2]; rfl
  | 3, _ => rw [e3]; rfl
  | 4, _ => rw [e4]; rfl
  | 5, _ => rw [e5]; rfl
 und := Tryz.underlying24
 info := info_of (by kernel_rfl)
def kdDe : Kd De where
 T := 77
 ST := 22
 n := 2
 bytes := 24
 R := fun S w x c => RepDe S w x (c 0) (c 1)
 pos := by omega
 few := by omega
 on := fun _ _ h => h
 one := fun h j hj => by
  obtain ⟨e0, e1⟩ := h.form
  match j, hj with
  | 0, _ => rw [e0]; rfl
  | 1, _ => rw [e1]; rfl
 und := Tryz.underlying22
 info := info_of (by kernel_rfl)
def kdFa : Kd Fa where
 T := 68
 ST := 23
 n := 2
 bytes := 40
 R := fun S w x c => RepFa S w x (c 0) (c 1)
 pos := by omega
 few := by omega
 on := fun hS hw h => RepFa.on hS hw h
 one := fun h j hj => by
  obtain ⟨ga, gc, e0, e1⟩ := h.form
  match j, hj with
  | 0, _ => rw [e0]; rfl
  | 1, _ => rw [e1]; rfl
 und := Tryz.underlying23
 info := info_of (by kernel_rfl)
def kdV : Kd V where
 T := 31
 ST := 29
 n := 4
 bytes := 56
 R := fun S w x c => RepG S w x (c 0) (c 1) (c 2) (c 3)
 pos := by omega
 few := by omega
 on := fun hS hw h => RepG.on hS hw _ h
 one := fun h j hj => by
  obtain ⟨ga, gc, e0, e1, e2, e3⟩ := h.form
  match j, hj with
  | 0, _ => rw [e0]; rfl
  | 1, _ => rw [e1]; rfl
  | 2, _ => rw [e2]; rfl
  | 3, _ => rw [e3]; rfl
 und := Tryz.underlying29
 info := info_of (by kernel_rfl)
end Go.Proofs.YtjohcnhiblfbnaaGreat
