/-
  Terms, literals, rules, facts and programs as plain data, and what cells hold them. No program is named here.
-/
import Derived.Test.YtgjemmdhamkngaaGreatDoorJ01
import Derived.Test.YtgjemmdhamkngaaGreatDoorJ02
import Derived.Laws.EntriesVeiled
namespace Go.Proofs.YtgjemmdhamkngaaGreatDoor
open Go.RowKit

/-- A slice whose elements lie in n cells each, 'bytes' bytes each. -/
def SlG {α : Type} (S : Nat → Prop) (w : World) (n bytes : Nat) (R : α → (Nat → Value) → Prop) (l : List α) (v : Value) : Prop :=
  ∃ (a : Option Addr) (b o cap : Nat), v = .slice a l.length cap ∧ l.length ≤ cap ∧ l.length * bytes ≤ 140737488355328 ∧ (0 < cap → a = some ⟨b, o, none⟩) ∧ (0 < l.length → S b) ∧
    ∀ i (h : i < l.length), ∃ c : Nat → Value, (∀ j, j < n → w.cell? ⟨b, o + i * n + j, none⟩ = some (c j)) ∧ R l[i] c
theorem SlG.on {α : Type} {S S' : Nat → Prop} {w w' : World} {n bytes : Nat} {R R' : α → (Nat → Value) → Prop} {l : List α} {v : Value} (hS : ∀ k, S k → S' k) (hw : ∀ k, S k → w'.heap[k]? = w.heap[k]?) (hR : ∀ x ∈ l, ∀ c, R x c → R' x c) (h : SlG S w n bytes R l v) : SlG S' w' n bytes R' l v := by
  obtain ⟨a, b, o, cap, e, h6, h7, h8, h9, h10⟩ := h
  refine ⟨a, b, o, cap, e, h6, h7, h8, fun h => hS _ (h9 h), fun i hi => ?_⟩
  obtain ⟨c, hc, hr⟩ := h10 i hi
  have hb : S b := h9 (by omega)
  exact ⟨c, fun j hj => (World.cell?_of_block (w := w) (hw b hb)).trans (hc j hj), hR _ (List.getElem_mem hi) c hr⟩
theorem SlG.form {α : Type} {S : Nat → Prop} {w : World} {n bytes : Nat} {R : α → (Nat → Value) → Prop} {l : List α} {v : Value} (h : SlG S w n bytes R l v) : ∃ (a : Option Addr) (cap : Nat), v = .slice a l.length cap := by
  obtain ⟨a, b, o, cap, e, -⟩ := h
  exact ⟨a, cap, e⟩
theorem SlG.at {α : Type} {S : Nat → Prop} {w : World} {n bytes : Nat} {R : α → (Nat → Value) → Prop} {l : List α} {a : Option Addr} {len cap : Nat} (h : SlG S w n bytes R l (.slice a len cap)) (i : Nat) (hi : i < l.length) :
    len = l.length ∧ l.length ≤ cap ∧ ∃ (b o : Nat), a = some ⟨b, o, none⟩ ∧ S b ∧ ∃ c : Nat → Value, (∀ j, j < n → w.cell? ⟨b, o + i * n + j, none⟩ = some (c j)) ∧ R l[i] c := by
  obtain ⟨a', b, o, cap', e, h6, h7, h8, h9, h10⟩ := h
  cases e
  exact ⟨rfl, h6, b, o, h8 (by omega), h9 (by omega), h10 i hi⟩
theorem SlG.bytes {α : Type} {S : Nat → Prop} {w : World} {n bytes : Nat} {R : α → (Nat → Value) → Prop} {l : List α} {v : Value} (h : SlG S w n bytes R l v) : l.length * bytes ≤ 140737488355328 := by
  obtain ⟨a, b, o, cap, e, h6, h7, -⟩ := h
  exact h7

inductive Tm where
  | mk (kind : Int) (name : ByteArray) (val : V) (args : List Tm) : Tm
namespace Tm
def kind : Tm → Int | mk k _ _ _ => k
def name : Tm → ByteArray | mk _ s _ _ => s
def val : Tm → V | mk _ _ x _ => x
def args : Tm → List Tm | mk _ _ _ l => l
end Tm

/-- Seven cells hold a term. -/
def RepM (S : Nat → Prop) (w : World) : Tm → Value → Value → Value → Value → Value → Value → Value → Prop
  | .mk k s x l, c0, c1, c2, c3, c4, c5, c6 => c0 = .int .i64 k ∧ c1 = .string s ∧ I64 k ∧ s.size ≤ maxLen ∧ RepG S w x c2 c3 c4 c5 ∧
      ∃ (a : Option Addr) (b o cap : Nat), c6 = .slice a l.length cap ∧ l.length ≤ cap ∧ l.length * 104 ≤ 140737488355328 ∧ (0 < cap → a = some ⟨b, o, none⟩) ∧ (0 < l.length → S b) ∧
        ∀ i (h : i < l.length), ∃ c : Nat → Value, (∀ j, j < 7 → w.cell? ⟨b, o + i * 7 + j, none⟩ = some (c j)) ∧ RepM S w l[i] (c 0) (c 1) (c 2) (c 3) (c 4) (c 5) (c 6)
  termination_by x => SizeOf.sizeOf x
  decreasing_by
    have := List.sizeOf_lt_of_mem (List.getElem_mem h)
    simp only [Tm.mk.sizeOf_spec]
    omega
/-- A slice of terms. -/
def RepMs (S : Nat → Prop) (w : World) (l : List Tm) (v : Value) : Prop := SlG S w 7 104 (fun x c => RepM S w x (c 0) (c 1) (c 2) (c 3) (c 4) (c 5) (c 6)) l v
theorem repM_mk {S : Nat → Prop} {w : World} {k : Int} {s : ByteArray} {x : V} {l : List Tm} {c0 c1 c2 c3 c4 c5 c6 : Value} :
    RepM S w (.mk k s x l) c0 c1 c2 c3 c4 c5 c6 ↔ (c0 = .int .i64 k ∧ c1 = .string s ∧ I64 k ∧ s.size ≤ maxLen ∧ RepG S w x c2 c3 c4 c5 ∧ RepMs S w l c6) := by
  rw [RepM]; rfl
theorem RepM.on {S S' : Nat → Prop} {w w' : World} (hS : ∀ k, S k → S' k) (hw : ∀ k, S k → w'.heap[k]? = w.heap[k]?) : ∀ (x : Tm) {c0 c1 c2 c3 c4 c5 c6 : Value}, RepM S w x c0 c1 c2 c3 c4 c5 c6 → RepM S' w' x c0 c1 c2 c3 c4 c5 c6
  | .mk k s x l, c0, c1, c2, c3, c4, c5, c6, h => by
    rw [repM_mk] at h ⊢
    obtain ⟨h0, h1, h2, h3, h4, a, b, o, cap, e, h6, h7, h8, h9, h10⟩ := h
    refine ⟨h0, h1, h2, h3, RepG.on hS hw x h4, a, b, o, cap, e, h6, h7, h8, fun h => hS _ (h9 h), fun i hi => ?_⟩
    obtain ⟨c, hc, hr⟩ := h10 i hi
    have hb : S b := h9 (by omega)
    exact ⟨c, fun j hj => (World.cell?_of_block (w := w) (hw b hb)).trans (hc j hj), RepM.on hS hw l[i] hr⟩
  termination_by x => SizeOf.sizeOf x
  decreasing_by
    have := List.sizeOf_lt_of_mem (List.getElem_mem hi)
    simp only [Tm.mk.sizeOf_spec]
    omega
theorem RepMs.on {S S' : Nat → Prop} {w w' : World} (hS : ∀ k, S k → S' k) (hw : ∀ k, S k → w'.heap[k]? = w.heap[k]?) {l : List Tm} {v : Value} (h : RepMs S w l v) : RepMs S' w' l v :=
  SlG.on hS hw (fun x _ _ hx => RepM.on hS hw x hx) h
theorem RepM.form {S : Nat → Prop} {w : World} {x : Tm} {c0 c1 c2 c3 c4 c5 c6 : Value} (h : RepM S w x c0 c1 c2 c3 c4 c5 c6) :
    ∃ (fa : Option Addr) (fc : Nat) (ga : Option Addr) (gc : Nat), c0 = .int .i64 x.kind ∧ c1 = .string x.name ∧ c2 = .int .i64 x.val.kind ∧ c3 = .int .i64 x.val.num ∧ c4 = .string x.val.text ∧ c5 = .slice fa x.val.list.length fc ∧ c6 = .slice ga x.args.length gc := by
  cases x with
  | mk k s x l =>
    rw [repM_mk] at h
    obtain ⟨h0, h1, -, -, h4, h5⟩ := h
    obtain ⟨fa, fc, e2, e3, e4, e5⟩ := h4.form
    obtain ⟨ga, gc, e6⟩ := SlG.form h5
    exact ⟨fa, fc, ga, gc, h0, h1, e2, e3, e4, e5, e6⟩
theorem RepM.value {S : Nat → Prop} {w : World} {x : Tm} {c0 c1 c2 c3 c4 c5 c6 : Value} (h : RepM S w x c0 c1 c2 c3 c4 c5 c6) : RepG S w x.val c2 c3 c4 c5 := by
  cases x with
  | mk k s x l => exact (repM_mk.1 h).2.2.2.2.1
theorem RepM.lst {S : Nat → Prop} {w : World} {x : Tm} {c0 c1 c2 c3 c4 c5 c6 : Value} (h : RepM S w x c0 c1 c2 c3 c4 c5 c6) : RepMs S w x.args c6 := by
  cases x with
  | mk k s x l => exact (repM_mk.1 h).2.2.2.2.2
theorem RepM.bounds {S : Nat → Prop} {w : World} {x : Tm} {c0 c1 c2 c3 c4 c5 c6 : Value} (h : RepM S w x c0 c1 c2 c3 c4 c5 c6) : I64 x.kind ∧ x.name.size ≤ maxLen := by
  cases x with
  | mk k s x l => exact ⟨(repM_mk.1 h).2.2.1, (repM_mk.1 h).2.2.2.1⟩

/-- A term where it lies. -/
def TmAt (S : Nat → Prop) (w : World) (x : Tm) (fa : Option Addr) (fc : Nat) (ga : Option Addr) (gc : Nat) : Prop :=
  RepM S w x (.int .i64 x.kind) (.string x.name) (.int .i64 x.val.kind) (.int .i64 x.val.num) (.string x.val.text) (.slice fa x.val.list.length fc) (.slice ga x.args.length gc)
theorem RepMs.at {S : Nat → Prop} {w : World} {l : List Tm} {a : Option Addr} {len cap : Nat} (h : RepMs S w l (.slice a len cap)) (i : Nat) (hi : i < l.length) :
    len = l.length ∧ l.length ≤ cap ∧ ∃ (b o : Nat) (fa : Option Addr) (fc : Nat) (ga : Option Addr) (gc : Nat), a = some ⟨b, o, none⟩ ∧ S b ∧
      w.cell? ⟨b, o + i * 7, none⟩ = some (.int .i64 l[i].kind) ∧ w.cell? ⟨b, o + i * 7 + 1, none⟩ = some (.string l[i].name) ∧ w.cell? ⟨b, o + i * 7 + 2, none⟩ = some (.int .i64 l[i].val.kind) ∧ w.cell? ⟨b, o + i * 7 + 3, none⟩ = some (.int .i64 l[i].val.num) ∧
      w.cell? ⟨b, o + i * 7 + 4, none⟩ = some (.string l[i].val.text) ∧ w.cell? ⟨b, o + i * 7 + 5, none⟩ = some (.slice fa l[i].val.list.length fc) ∧ w.cell? ⟨b, o + i * 7 + 6, none⟩ = some (.slice ga l[i].args.length gc) ∧ TmAt S w l[i] fa fc ga gc := by
  obtain ⟨h1, h2, b, o, h3, h4, c, hc, hr⟩ := SlG.at h i hi
  obtain ⟨fa, fc, ga, gc, e0, e1, e2, e3, e4, e5, e6⟩ := hr.form
  rw [e0, e1, e2, e3, e4, e5, e6] at hr
  exact ⟨h1, h2, b, o, fa, fc, ga, gc, h3, h4, by rw [← e0]; exact hc 0 (by omega), by rw [← e1]; exact hc 1 (by omega), by rw [← e2]; exact hc 2 (by omega), by rw [← e3]; exact hc 3 (by omega), by rw [← e4]; exact hc 4 (by omega), by rw [← e5]; exact hc 5 (by omega), by rw [← e6]; exact hc 6 (by omega), hr⟩

/-- Literals. -/
structure Li where
  kind : Int
  name : ByteArray
  args : List Tm
def RepLi (S : Nat → Prop) (w : World) (x : Li) (c0 c1 c2 : Value) : Prop := c0 = .int .i64 x.kind ∧ c1 = .string x.name ∧ I64 x.kind ∧ x.name.size ≤ maxLen ∧ RepMs S w x.args c2
def RepLis (S : Nat → Prop) (w : World) (l : List Li) (v : Value) : Prop := SlG S w 3 48 (fun x c => RepLi S w x (c 0) (c 1) (c 2)) l v
/-- Rules. -/
structure Ru where
  label : ByteArray
  head : ByteArray
  args : List Tm
  agg : ByteArray
  at' : Int
  body : List Li
def RepRu (S : Nat → Prop) (w : World) (x : Ru) (c0 c1 c2 c3 c4 c5 : Value) : Prop := c0 = .string x.label ∧ c1 = .string x.head ∧ c3 = .string x.agg ∧ c4 = .int .i64 x.at' ∧ x.label.size ≤ maxLen ∧ x.head.size ≤ maxLen ∧ x.agg.size ≤ maxLen ∧ I64 x.at' ∧ RepMs S w x.args c2 ∧ RepLis S w x.body c5
def RepRus (S : Nat → Prop) (w : World) (l : List Ru) (v : Value) : Prop := SlG S w 6 104 (fun x c => RepRu S w x (c 0) (c 1) (c 2) (c 3) (c 4) (c 5)) l v
/-- Relations that are told. -/
structure De where
  name : ByteArray
  arity : Int
def RepDe (_S : Nat → Prop) (_w : World) (x : De) (c0 c1 : Value) : Prop := c0 = .string x.name ∧ c1 = .int .i64 x.arity ∧ x.name.size ≤ maxLen ∧ I64 x.arity
def RepDes (S : Nat → Prop) (w : World) (l : List De) (v : Value) : Prop := SlG S w 2 24 (fun x c => RepDe S w x (c 0) (c 1)) l v
/-- Facts. -/
structure Fa where
  name : ByteArray
  args : List V
def RepFa (S : Nat → Prop) (w : World) (x : Fa) (c0 c1 : Value) : Prop := c0 = .string x.name ∧ x.name.size ≤ maxLen ∧ RepLG S w x.args c1
def RepFas (S : Nat → Prop) (w : World) (l : List Fa) (v : Value) : Prop := SlG S w 2 40 (fun x c => RepFa S w x (c 0) (c 1)) l v
/-- Programs. -/
structure Pr where
  decls : List De
  facts : List Fa
  rules : List Ru
def RepPr (S : Nat → Prop) (w : World) (x : Pr) (c0 c1 c2 : Value) : Prop := RepDes S w x.decls c0 ∧ RepFas S w x.facts c1 ∧ RepRus S w x.rules c2

section
variable {S S' : Nat → Prop} {w w' : World} (hS : ∀ k, S k → S' k) (hw : ∀ k, S k → w'.heap[k]? = w.heap[k]?)
include hS hw
theorem RepLi.on {x : Li} {c0 c1 c2 : Value} (h : RepLi S w x c0 c1 c2) : RepLi S' w' x c0 c1 c2 := ⟨h.1, h.2.1, h.2.2.1, h.2.2.2.1, RepMs.on hS hw h.2.2.2.2⟩
theorem RepLis.on {l : List Li} {v : Value} (h : RepLis S w l v) : RepLis S' w' l v := SlG.on hS hw (fun _ _ _ hx => RepLi.on hS hw hx) h
theorem RepRu.on {x : Ru} {c0 c1 c2 c3 c4 c5 : Value} (h : RepRu S w x c0 c1 c2 c3 c4 c5) : RepRu S' w' x c0 c1 c2 c3 c4 c5 := by
  obtain ⟨h0, h1, h2, h3, h4, h5, h6, h7, h8, h9⟩ := h
  exact ⟨h0, h1, h2, h3, h4, h5, h6, h7, RepMs.on hS hw h8, RepLis.on hS hw h9⟩
theorem RepRus.on {l : List Ru} {v : Value} (h : RepRus S w l v) : RepRus S' w' l v := SlG.on hS hw (fun _ _ _ hx => RepRu.on hS hw hx) h
theorem RepDes.on {l : List De} {v : Value} (h : RepDes S w l v) : RepDes S' w' l v := SlG.on hS hw (fun _ _ _ hx => hx) h
theorem RepFa.on {x : Fa} {c0 c1 : Value} (h : RepFa S w x c0 c1) : RepFa S' w' x c0 c1 := ⟨h.1, h.2.1, RepLG.on hS hw h.2.2⟩
theorem RepFas.on {l : List Fa} {v : Value} (h : RepFas S w l v) : RepFas S' w' l v := SlG.on hS hw (fun _ _ _ hx => RepFa.on hS hw hx) h
theorem RepPr.on {x : Pr} {c0 c1 c2 : Value} (h : RepPr S w x c0 c1 c2) : RepPr S' w' x c0 c1 c2 := ⟨RepDes.on hS hw h.1, RepFas.on hS hw h.2.1, RepRus.on hS hw h.2.2⟩
end

end Go.Proofs.YtgjemmdhamkngaaGreatDoor

/-
  printer's variable: a range over a string's runes comes to what its bytes say.
-/
namespace Go.Proofs.YtgjemmdhamkngaaGreatDoor
open Go.RowKit

def greatB (r : Int) : Bool := decide (65 ≤ r ∧ r ≤ 90)
def okVar (i : Nat) (r : Int) : Bool := greatB r || (!(decide (i = 0)) && (smallB r || (digitB r || (r == 95))))
def varB (s : ByteArray) : Bool := decide (1 ≤ s.size ∧ s.size ≤ 16 ∧ ∀ i (h : i < s.size), okVar i (s[i].toNat : Int) = true)
theorem okVar_high (i : Nat) (r : Int) (h : 128 ≤ r) : okVar i r = false := by
  simp only [okVar, greatB, smallB, digitB, Bool.or_eq_false_iff, Bool.and_eq_false_iff, decide_eq_false_iff_not, beq_eq_false_iff_ne, Bool.not_eq_false', decide_eq_true_eq]
  omega
theorem varB_true {s : ByteArray} (h1 : 1 ≤ s.size) (h2 : s.size ≤ 16) (h : ∀ i (h : i < s.size), okVar i (s[i].toNat : Int) = true) : varB s = true := decide_eq_true ⟨h1, h2, h⟩
theorem varB_false {s : ByteArray} {i : Nat} (h : i < s.size) (e : okVar i (s[i].toNat : Int) = false) : varB s = false := decide_eq_false fun ⟨_, _, g⟩ => by rw [g i h] at e; cases e
theorem varB_size {s : ByteArray} (h : s.size < 1 ∨ 16 < s.size) : varB s = false := decide_eq_false fun ⟨_, _, _⟩ => by omega

theorem pgreat_any (r : Int) (w : World) : Calls Tryz.prog 111 #[.int .i32 r] w fun e w' => e = .returned (.bool (greatB r)) ∧ w = w' := by
  by_cases h1 : 65 ≤ r
  · by_cases h2 : r ≤ 90
    · have HF : Hid (greatB r = true) := decide_eq_true ⟨h1, h2⟩
      go_enter Tryz.func111, Tryz.ntmps111
      go_wp2
      go_ret
      exact ⟨ret_bool HF.out.symm, rfl⟩
    · have HF : Hid (greatB r = false) := decide_eq_false (by omega)
      go_enter Tryz.func111, Tryz.ntmps111
      go_wp2
      go_ret
      exact ⟨ret_bool HF.out.symm, rfl⟩
  · have HF : Hid (greatB r = false) := decide_eq_false (by omega)
    have hd : decide (65 ≤ r) = false := by simpa using h1
    go_enter Tryz.func111, Tryz.ntmps111
    go_wp2
    go_ret
    exact ⟨ret_bool HF.out.symm, rfl⟩
theorem psmall_any (r : Int) (w : World) : Calls Tryz.prog 112 #[.int .i32 r] w fun e w' => e = .returned (.bool (smallB r)) ∧ w = w' := by
  by_cases h1 : 97 ≤ r
  · by_cases h2 : r ≤ 122
    · have HF : Hid (smallB r = true) := decide_eq_true ⟨h1, h2⟩
      go_enter Tryz.func112, Tryz.ntmps112
      go_wp2
      go_ret
      exact ⟨ret_bool HF.out.symm, rfl⟩
    · have HF : Hid (smallB r = false) := decide_eq_false (by omega)
      go_enter Tryz.func112, Tryz.ntmps112
      go_wp2
      go_ret
      exact ⟨ret_bool HF.out.symm, rfl⟩
  · have HF : Hid (smallB r = false) := decide_eq_false (by omega)
    have hd : decide (97 ≤ r) = false := by simpa using h1
    go_enter Tryz.func112, Tryz.ntmps112
    go_wp2
    go_ret
    exact ⟨ret_bool HF.out.symm, rfl⟩
theorem pdigit_any (r : Int) (w : World) : Calls Tryz.prog 113 #[.int .i32 r] w fun e w' => e = .returned (.bool (digitB r)) ∧ w = w' := by
  by_cases h1 : 48 ≤ r
  · by_cases h2 : r ≤ 57
    · have HF : Hid (digitB r = true) := decide_eq_true ⟨h1, h2⟩
      go_enter Tryz.func113, Tryz.ntmps113
      go_wp2
      go_ret
      exact ⟨ret_bool HF.out.symm, rfl⟩
    · have HF : Hid (digitB r = false) := decide_eq_false (by omega)
      go_enter Tryz.func113, Tryz.ntmps113
      go_wp2
      go_ret
      exact ⟨ret_bool HF.out.symm, rfl⟩
  · have HF : Hid (digitB r = false) := decide_eq_false (by omega)
    have hd : decide (48 ≤ r) = false := by simpa using h1
    go_enter Tryz.func113, Tryz.ntmps113
    go_wp2
    go_ret
    exact ⟨ret_bool HF.out.symm, rfl⟩

set_option maxRecDepth 100000 in
set_option maxHeartbeats 1000000 in
theorem variable_any (s : ByteArray) (w : World) (hs : s.size ≤ maxLen) :
    Calls Tryz.prog 92 #[.string s] w fun e w' => e = .returned (.bool (varB s)) ∧ Below w.heap.size w w' := by
  unfold maxLen at hs
  by_cases hz : s.size < 1
  · have HF := Lib.hid (varB_size (s := s) (Or.inl hz))
    go_enter Tryz.func92, Tryz.ntmps92
    go_wp2_with fail
    go_ret
    exact ⟨ret_bool HF.out.symm, Below.refl _ _⟩
  by_cases hz2 : 16 < s.size
  · have HF := Lib.hid (varB_size (s := s) (Or.inr hz2))
    go_enter Tryz.func92, Tryz.ntmps92
    go_wp2_with fail
    go_ret
    exact ⟨ret_bool HF.out.symm, Below.refl _ _⟩
  have hb1 : decide ((s.size : Int) < 1) = false := by simp; omega
  have hb2 : decide (16 < (s.size : Int)) = false := by simp; omega
  go_enter Tryz.func92, Tryz.ntmps92
  go_wp2_with fail
  go_loopw [2] (fun _ w' => ∃ (pos : Nat), w' = w.iter s pos ∧ pos ≤ s.size ∧ Hid (∀ i (h : i < s.size), i < pos → okVar i (s[i].toNat : Int) = true)) (fun _ w' => s.size - w'.iterPos w.heap.size)
  case atStart => exact ⟨0, rfl, Nat.zero_le _, fun i _ hi => by omega⟩
  case round =>
    obtain ⟨pos, rfl, hpos, hok⟩ := hrel
    have hbel : Below w.heap.size w (w.iter s (pos + (Utf8.decode s pos).2)) := (Below.refl _ w).alloc (Nat.le_refl _) _
    have hbel0 : Below w.heap.size w (w.iter s pos) := (Below.refl _ w).alloc (Nat.le_refl _) _
    by_cases hp : pos < s.size
    · have hnx : ∀ ty, (Instr.next (.pointer (some ⟨w.heap.size, 0, none⟩)) true ty).run Tryz.prog (w.iter s pos) = _ := fun ty => run_next_any w s pos ty hp
      have hru := rune_at s pos hp
      have HOK : Hid ((okVar pos ((Utf8.decode s pos).1 : Int) = true → okVar pos (s[pos].toNat : Int) = true ∧ (Utf8.decode s pos).2 = 1) ∧ (okVar pos ((Utf8.decode s pos).1 : Int) = false → okVar pos (s[pos].toNat : Int) = false)) := by
        show _ ∧ _
        rcases hru with ⟨c, hc, he, hcc⟩ | ⟨h1, h2, h3⟩
        · rw [he, hcc]; exact ⟨fun h => ⟨h, rfl⟩, fun h => h⟩
        · rw [okVar_high _ _ (by omega : (128 : Int) ≤ ((Utf8.decode s pos).1 : Int)), okVar_high _ _ (by omega : (128 : Int) ≤ (s[pos].toNat : Int))]; exact ⟨(fun h => by cases h), fun h => h⟩
      clear hru
      generalize hd : Utf8.decode s pos = d at *
      obtain ⟨r, wd⟩ := d
      clear hd
      dsimp only at hnx HOK hbel
      cases h0 : greatB (r : Int) with
      | true =>
        have HK : Hid (okVar pos (r : Int) = true) := by show _ = _; simp [okVar, h0]
        go_wp2_with (first | (go_at_call 111; refine (pgreat_any _ _).mono ?_; rintro e w' ⟨rfl, rfl⟩) | (go_at_call 112; refine (psmall_any _ _).mono ?_; rintro e w' ⟨rfl, rfl⟩) | (go_at_call 113; refine (pdigit_any _ _).mono ?_; rintro e w' ⟨rfl, rfl⟩))
        go_roundw
        case rel =>
          obtain ⟨g1, g2⟩ := HOK.out.1 HK.out
          refine ⟨pos + wd, rfl, by omega, fun i hi hi2 => ?_⟩
          by_cases e : i = pos
          · subst e; exact g1
          · exact hok.out i hi (by omega)
        case measure =>
          obtain ⟨g1, g2⟩ := HOK.out.1 HK.out
          simp
          omega
      | false =>
      by_cases h2 : pos = 0
      · have HK : Hid (okVar pos (r : Int) = false) := by show _ = _; simp [okVar, h0, h2]
        have h2' : ((pos : Int) == 0) = true := by simp [h2]
        clear h2
        go_wp2_with (first | (go_at_call 111; refine (pgreat_any _ _).mono ?_; rintro e w' ⟨rfl, rfl⟩) | (go_at_call 112; refine (psmall_any _ _).mono ?_; rintro e w' ⟨rfl, rfl⟩) | (go_at_call 113; refine (pdigit_any _ _).mono ?_; rintro e w' ⟨rfl, rfl⟩))
        go_ret
        exact ⟨ret_bool (varB_false hp (HOK.out.2 HK.out)).symm, hbel⟩
      have h2' : ((pos : Int) == 0) = false := by simp [h2]
      cases h1 : smallB (r : Int) with
      | true =>
        have HK : Hid (okVar pos (r : Int) = true) := by show _ = _; simp [okVar, h1, h2]
        clear h2
        go_wp2_with (first | (go_at_call 111; refine (pgreat_any _ _).mono ?_; rintro e w' ⟨rfl, rfl⟩) | (go_at_call 112; refine (psmall_any _ _).mono ?_; rintro e w' ⟨rfl, rfl⟩) | (go_at_call 113; refine (pdigit_any _ _).mono ?_; rintro e w' ⟨rfl, rfl⟩))
        go_roundw
        case rel =>
          obtain ⟨g1, g2⟩ := HOK.out.1 HK.out
          refine ⟨pos + wd, rfl, by omega, fun i hi hi2 => ?_⟩
          by_cases e : i = pos
          · subst e; exact g1
          · exact hok.out i hi (by omega)
        case measure =>
          obtain ⟨g1, g2⟩ := HOK.out.1 HK.out
          simp
          omega
      | false =>
      cases h3 : digitB (r : Int) with
      | true =>
        have HK : Hid (okVar pos (r : Int) = true) := by show _ = _; simp [okVar, h2, h3]
        clear h2
        go_wp2_with (first | (go_at_call 111; refine (pgreat_any _ _).mono ?_; rintro e w' ⟨rfl, rfl⟩) | (go_at_call 112; refine (psmall_any _ _).mono ?_; rintro e w' ⟨rfl, rfl⟩) | (go_at_call 113; refine (pdigit_any _ _).mono ?_; rintro e w' ⟨rfl, rfl⟩))
        go_roundw
        case rel =>
          obtain ⟨g1, g2⟩ := HOK.out.1 HK.out
          refine ⟨pos + wd, rfl, by omega, fun i hi hi2 => ?_⟩
          by_cases e : i = pos
          · subst e; exact g1
          · exact hok.out i hi (by omega)
        case measure =>
          obtain ⟨g1, g2⟩ := HOK.out.1 HK.out
          simp
          omega
      | false =>
      by_cases h4 : (r : Int) = 95
      · have HK : Hid (okVar pos (r : Int) = true) := by show _ = _; simp [okVar, h2, h4]
        have h4' : ((r : Int) != 95) = false := by simp [h4]
        clear h2 h4
        go_wp2_with (first | (go_at_call 111; refine (pgreat_any _ _).mono ?_; rintro e w' ⟨rfl, rfl⟩) | (go_at_call 112; refine (psmall_any _ _).mono ?_; rintro e w' ⟨rfl, rfl⟩) | (go_at_call 113; refine (pdigit_any _ _).mono ?_; rintro e w' ⟨rfl, rfl⟩))
        go_roundw
        case rel =>
          obtain ⟨g1, g2⟩ := HOK.out.1 HK.out
          refine ⟨pos + wd, rfl, by omega, fun i hi hi2 => ?_⟩
          by_cases e : i = pos
          · subst e; exact g1
          · exact hok.out i hi (by omega)
        case measure =>
          obtain ⟨g1, g2⟩ := HOK.out.1 HK.out
          simp
          omega
      · have HK : Hid (okVar pos (r : Int) = false) := by show _ = _; simp [okVar, h0, h1, h3, h4]
        have h4' : ((r : Int) != 95) = true := by simp [h4]
        clear h2 h4
        go_wp2_with (first | (go_at_call 111; refine (pgreat_any _ _).mono ?_; rintro e w' ⟨rfl, rfl⟩) | (go_at_call 112; refine (psmall_any _ _).mono ?_; rintro e w' ⟨rfl, rfl⟩) | (go_at_call 113; refine (pdigit_any _ _).mono ?_; rintro e w' ⟨rfl, rfl⟩))
        go_ret
        exact ⟨ret_bool (varB_false hp (HOK.out.2 HK.out)).symm, hbel⟩
    · have hnx : ∀ ty, (Instr.next (.pointer (some ⟨w.heap.size, 0, none⟩)) true ty).run Tryz.prog (w.iter s pos) = _ := fun ty => run_next_end w s pos ty hp
      have HF := Lib.hid (varB_true (s := s) (by omega) (by omega) (fun i hi => hok.out i hi (by omega)))
      go_wp2_with fail
      go_ret
      exact ⟨ret_bool HF.out.symm, hbel0⟩

end Go.Proofs.YtgjemmdhamkngaaGreatDoor

/-
  builtin's table of functions: what find and Arity tell of any name.
-/
namespace Go.Proofs.YtgjemmdhamkngaaGreatDoor
open Go.RowKit

/-- The functions' names, by their numbers here. -/
def fname : Nat → List UInt8
  | 0 => [102, 95, 99, 111, 110, 115]
  | 1 => [102, 95, 97, 112, 112, 101, 110, 100]
  | 2 => [102, 95, 99, 111, 110, 99, 97, 116]
  | 3 => [102, 95, 109, 101, 109, 98, 101, 114]
  | 4 => [102, 95, 115, 105, 122, 101]
  | 5 => [102, 95, 102, 105, 114, 115, 116]
  | 6 => [102, 95, 108, 97, 115, 116]
  | 7 => [102, 95, 114, 101, 115, 116]
  | 8 => [102, 95, 114, 101, 118, 101, 114, 115, 101]
  | _ => []
/-- Which function a name is of; 9: of none. -/
def fnOf (s : ByteArray) : Nat :=
  if (s.toList == [102, 95, 99, 111, 110, 115]) = true then 0
  else if (s.toList == [102, 95, 97, 112, 112, 101, 110, 100]) = true then 1
  else if (s.toList == [102, 95, 99, 111, 110, 99, 97, 116]) = true then 2
  else if (s.toList == [102, 95, 109, 101, 109, 98, 101, 114]) = true then 3
  else if (s.toList == [102, 95, 115, 105, 122, 101]) = true then 4
  else if (s.toList == [102, 95, 102, 105, 114, 115, 116]) = true then 5
  else if (s.toList == [102, 95, 108, 97, 115, 116]) = true then 6
  else if (s.toList == [102, 95, 114, 101, 115, 116]) = true then 7
  else if (s.toList == [102, 95, 114, 101, 118, 101, 114, 115, 101]) = true then 8
  else 9
def fnArity : Nat → Int
  | 0 => 2
  | 1 => 2
  | 2 => 2
  | 3 => 2
  | 4 => 1
  | 5 => 1
  | 6 => 1
  | 7 => 1
  | 8 => 1
  | _ => -1
def fnList : Nat → Nat → Bool
  | 0, 0 => false | 0, 1 => true
  | 1, 0 => true | 1, 1 => false
  | 2, 0 => true | 2, 1 => true
  | 3, 0 => true | 3, 1 => false
  | 4, 0 => true | 4, 1 => false
  | 5, 0 => true | 5, 1 => false
  | 6, 0 => true | 6, 1 => false
  | 7, 0 => true | 7, 1 => false
  | 8, 0 => true | 8, 1 => false
  | _, _ => false
def fnDo : Nat → Value
  | 0 => .func (.func 130) #[] #[]
  | 1 => .func (.func 131) #[] #[]
  | 2 => .func (.func 132) #[] #[]
  | 3 => .func (.func 133) #[] #[]
  | 4 => .func (.func 134) #[] #[]
  | 5 => .func (.func 135) #[] #[]
  | 6 => .func (.func 136) #[] #[]
  | 7 => .func (.func 137) #[] #[]
  | 8 => .func (.func 138) #[] #[]
  | _ => .nilFunc
def FindPost (k : Nat) (w : World) (e : Ending) (w' : World) : Prop := e = .returned (.agg #[.int .i64 (fnArity k), .bool (fnList k 0), .bool (fnList k 1), fnDo k]) ∧ Below w.heap.size w w'
set_option maxRecDepth 100000 in
set_option maxHeartbeats 1000000 in
theorem find_0 (s : ByteArray) (w : World) (h0 : (s.toList == [102, 95, 99, 111, 110, 115]) = true) : Calls Tryz.prog 128 #[.string s] w (FindPost 0 w) := by
  go_enter Tryz.func128, Tryz.ntmps128
  go_wp2_with fail
  exact bodyPost_ret (v := .agg #[.int .i64 2, .bool false, .bool true, .func (.func 130) #[] #[]]) (by simp [results, Tryz.results128, go_sem]) rfl ⟨rfl, (Below.refl _ _).alloc (Nat.le_refl _) _⟩
set_option maxRecDepth 100000 in
set_option maxHeartbeats 1000000 in
theorem find_1 (s : ByteArray) (w : World) (h0 : (s.toList == [102, 95, 99, 111, 110, 115]) = false) (h1 : (s.toList == [102, 95, 97, 112, 112, 101, 110, 100]) = true) : Calls Tryz.prog 128 #[.string s] w (FindPost 1 w) := by
  go_enter Tryz.func128, Tryz.ntmps128
  go_wp2_with fail
  exact bodyPost_ret (v := .agg #[.int .i64 2, .bool true, .bool false, .func (.func 131) #[] #[]]) (by simp [results, Tryz.results128, go_sem]) rfl ⟨rfl, (Below.refl _ _).alloc (Nat.le_refl _) _⟩
set_option maxRecDepth 100000 in
set_option maxHeartbeats 1000000 in
theorem find_2 (s : ByteArray) (w : World) (h0 : (s.toList == [102, 95, 99, 111, 110, 115]) = false) (h1 : (s.toList == [102, 95, 97, 112, 112, 101, 110, 100]) = false) (h2 : (s.toList == [102, 95, 99, 111, 110, 99, 97, 116]) = true) : Calls Tryz.prog 128 #[.string s] w (FindPost 2 w) := by
  go_enter Tryz.func128, Tryz.ntmps128
  go_wp2_with fail
  exact bodyPost_ret (v := .agg #[.int .i64 2, .bool true, .bool true, .func (.func 132) #[] #[]]) (by simp [results, Tryz.results128, go_sem]) rfl ⟨rfl, (Below.refl _ _).alloc (Nat.le_refl _) _⟩
set_option maxRecDepth 100000 in
set_option maxHeartbeats 1000000 in
theorem find_3 (s : ByteArray) (w : World) (h0 : (s.toList == [102, 95, 99, 111, 110, 115]) = false) (h1 : (s.toList == [102, 95, 97, 112, 112, 101, 110, 100]) = false) (h2 : (s.toList == [102, 95, 99, 111, 110, 99, 97, 116]) = false) (h3 : (s.toList == [102, 95, 109, 101, 109, 98, 101, 114]) = true) : Calls Tryz.prog 128 #[.string s] w (FindPost 3 w) := by
  go_enter Tryz.func128, Tryz.ntmps128
  go_wp2_with fail
  exact bodyPost_ret (v := .agg #[.int .i64 2, .bool true, .bool false, .func (.func 133) #[] #[]]) (by simp [results, Tryz.results128, go_sem]) rfl ⟨rfl, (Below.refl _ _).alloc (Nat.le_refl _) _⟩
set_option maxRecDepth 100000 in
set_option maxHeartbeats 1000000 in
theorem find_4 (s : ByteArray) (w : World) (h0 : (s.toList == [102, 95, 99, 111, 110, 115]) = false) (h1 : (s.toList == [102, 95, 97, 112, 112, 101, 110, 100]) = false) (h2 : (s.toList == [102, 95, 99, 111, 110, 99, 97, 116]) = false) (h3 : (s.toList == [102, 95, 109, 101, 109, 98, 101, 114]) = false) (h4 : (s.toList == [102, 95, 115, 105, 122, 101]) = true) : Calls Tryz.prog 128 #[.string s] w (FindPost 4 w) := by
  go_enter Tryz.func128, Tryz.ntmps128
  go_wp2_with fail
  exact bodyPost_ret (v := .agg #[.int .i64 1, .bool true, .bool false, .func (.func 134) #[] #[]]) (by simp [results, Tryz.results128, go_sem]) rfl ⟨rfl, (Below.refl _ _).alloc (Nat.le_refl _) _⟩
set_option maxRecDepth 100000 in
set_option maxHeartbeats 1000000 in
theorem find_5 (s : ByteArray) (w : World) (h0 : (s.toList == [102, 95, 99, 111, 110, 115]) = false) (h1 : (s.toList == [102, 95, 97, 112, 112, 101, 110, 100]) = false) (h2 : (s.toList == [102, 95, 99, 111, 110, 99, 97, 116]) = false) (h3 : (s.toList == [102, 95, 109, 101, 109, 98, 101, 114]) = false) (h4 : (s.toList == [102, 95, 115, 105, 122, 101]) = false) (h5 : (s.toList == [102, 95, 102, 105, 114, 115, 116]) = true) : Calls Tryz.prog 128 #[.string s] w (FindPost 5 w) := by
  go_enter Tryz.func128, Tryz.ntmps128
  go_wp2_with fail
  exact bodyPost_ret (v := .agg #[.int .i64 1, .bool true, .bool false, .func (.func 135) #[] #[]]) (by simp [results, Tryz.results128, go_sem]) rfl ⟨rfl, (Below.refl _ _).alloc (Nat.le_refl _) _⟩
set_option maxRecDepth 100000 in
set_option maxHeartbeats 1000000 in
theorem find_6 (s : ByteArray) (w : World) (h0 : (s.toList == [102, 95, 99, 111, 110, 115]) = false) (h1 : (s.toList == [102, 95, 97, 112, 112, 101, 110, 100]) = false) (h2 : (s.toList == [102, 95, 99, 111, 110, 99, 97, 116]) = false) (h3 : (s.toList == [102, 95, 109, 101, 109, 98, 101, 114]) = false) (h4 : (s.toList == [102, 95, 115, 105, 122, 101]) = false) (h5 : (s.toList == [102, 95, 102, 105, 114, 115, 116]) = false) (h6 : (s.toList == [102, 95, 108, 97, 115, 116]) = true) : Calls Tryz.prog 128 #[.string s] w (FindPost 6 w) := by
  go_enter Tryz.func128, Tryz.ntmps128
  go_wp2_with fail
  exact bodyPost_ret (v := .agg #[.int .i64 1, .bool true, .bool false, .func (.func 136) #[] #[]]) (by simp [results, Tryz.results128, go_sem]) rfl ⟨rfl, (Below.refl _ _).alloc (Nat.le_refl _) _⟩
set_option maxRecDepth 100000 in
set_option maxHeartbeats 1000000 in
theorem find_7 (s : ByteArray) (w : World) (h0 : (s.toList == [102, 95, 99, 111, 110, 115]) = false) (h1 : (s.toList == [102, 95, 97, 112, 112, 101, 110, 100]) = false) (h2 : (s.toList == [102, 95, 99, 111, 110, 99, 97, 116]) = false) (h3 : (s.toList == [102, 95, 109, 101, 109, 98, 101, 114]) = false) (h4 : (s.toList == [102, 95, 115, 105, 122, 101]) = false) (h5 : (s.toList == [102, 95, 102, 105, 114, 115, 116]) = false) (h6 : (s.toList == [102, 95, 108, 97, 115, 116]) = false) (h7 : (s.toList == [102, 95, 114, 101, 115, 116]) = true) : Calls Tryz.prog 128 #[.string s] w (FindPost 7 w) := by
  go_enter Tryz.func128, Tryz.ntmps128
  go_wp2_with fail
  exact bodyPost_ret (v := .agg #[.int .i64 1, .bool true, .bool false, .func (.func 137) #[] #[]]) (by simp [results, Tryz.results128, go_sem]) rfl ⟨rfl, (Below.refl _ _).alloc (Nat.le_refl _) _⟩
set_option maxRecDepth 100000 in
set_option maxHeartbeats 1000000 in
theorem find_8 (s : ByteArray) (w : World) (h0 : (s.toList == [102, 95, 99, 111, 110, 115]) = false) (h1 : (s.toList == [102, 95, 97, 112, 112, 101, 110, 100]) = false) (h2 : (s.toList == [102, 95, 99, 111, 110, 99, 97, 116]) = false) (h3 : (s.toList == [102, 95, 109, 101, 109, 98, 101, 114]) = false) (h4 : (s.toList == [102, 95, 115, 105, 122, 101]) = false) (h5 : (s.toList == [102, 95, 102, 105, 114, 115, 116]) = false) (h6 : (s.toList == [102, 95, 108, 97, 115, 116]) = false) (h7 : (s.toList == [102, 95, 114, 101, 115, 116]) = false) (h8 : (s.toList == [102, 95, 114, 101, 118, 101, 114, 115, 101]) = true) : Calls Tryz.prog 128 #[.string s] w (FindPost 8 w) := by
  go_enter Tryz.func128, Tryz.ntmps128
  go_wp2_with fail
  exact bodyPost_ret (v := .agg #[.int .i64 1, .bool true, .bool false, .func (.func 138) #[] #[]]) (by simp [results, Tryz.results128, go_sem]) rfl ⟨rfl, (Below.refl _ _).alloc (Nat.le_refl _) _⟩
set_option maxRecDepth 100000 in
set_option maxHeartbeats 1000000 in
theorem find_9 (s : ByteArray) (w : World) (h0 : (s.toList == [102, 95, 99, 111, 110, 115]) = false) (h1 : (s.toList == [102, 95, 97, 112, 112, 101, 110, 100]) = false) (h2 : (s.toList == [102, 95, 99, 111, 110, 99, 97, 116]) = false) (h3 : (s.toList == [102, 95, 109, 101, 109, 98, 101, 114]) = false) (h4 : (s.toList == [102, 95, 115, 105, 122, 101]) = false) (h5 : (s.toList == [102, 95, 102, 105, 114, 115, 116]) = false) (h6 : (s.toList == [102, 95, 108, 97, 115, 116]) = false) (h7 : (s.toList == [102, 95, 114, 101, 115, 116]) = false) (h8 : (s.toList == [102, 95, 114, 101, 118, 101, 114, 115, 101]) = false) : Calls Tryz.prog 128 #[.string s] w (FindPost 9 w) := by
  go_enter Tryz.func128, Tryz.ntmps128
  go_wp2_with fail
  exact bodyPost_ret (v := .agg #[.int .i64 (-1), .bool false, .bool false, .nilFunc]) (by simp [results, Tryz.results128, go_sem]) rfl ⟨rfl, (Below.refl _ _).alloc (Nat.le_refl _) _⟩
theorem find_any (s : ByteArray) (w : World) : Calls Tryz.prog 128 #[.string s] w (FindPost (fnOf s) w) := by
  unfold fnOf
  cases h0 : (s.toList == [102, 95, 99, 111, 110, 115]) with
  | true => rw [if_pos rfl]; exact find_0 s w h0
  | false =>
  rw [if_neg (by decide)]
  cases h1 : (s.toList == [102, 95, 97, 112, 112, 101, 110, 100]) with
  | true => rw [if_pos rfl]; exact find_1 s w h0 h1
  | false =>
  rw [if_neg (by decide)]
  cases h2 : (s.toList == [102, 95, 99, 111, 110, 99, 97, 116]) with
  | true => rw [if_pos rfl]; exact find_2 s w h0 h1 h2
  | false =>
  rw [if_neg (by decide)]
  cases h3 : (s.toList == [102, 95, 109, 101, 109, 98, 101, 114]) with
  | true => rw [if_pos rfl]; exact find_3 s w h0 h1 h2 h3
  | false =>
  rw [if_neg (by decide)]
  cases h4 : (s.toList == [102, 95, 115, 105, 122, 101]) with
  | true => rw [if_pos rfl]; exact find_4 s w h0 h1 h2 h3 h4
  | false =>
  rw [if_neg (by decide)]
  cases h5 : (s.toList == [102, 95, 102, 105, 114, 115, 116]) with
  | true => rw [if_pos rfl]; exact find_5 s w h0 h1 h2 h3 h4 h5
  | false =>
  rw [if_neg (by decide)]
  cases h6 : (s.toList == [102, 95, 108, 97, 115, 116]) with
  | true => rw [if_pos rfl]; exact find_6 s w h0 h1 h2 h3 h4 h5 h6
  | false =>
  rw [if_neg (by decide)]
  cases h7 : (s.toList == [102, 95, 114, 101, 115, 116]) with
  | true => rw [if_pos rfl]; exact find_7 s w h0 h1 h2 h3 h4 h5 h6 h7
  | false =>
  rw [if_neg (by decide)]
  cases h8 : (s.toList == [102, 95, 114, 101, 118, 101, 114, 115, 101]) with
  | true => rw [if_pos rfl]; exact find_8 s w h0 h1 h2 h3 h4 h5 h6 h7 h8
  | false =>
  rw [if_neg (by decide)]
  exact find_9 s w h0 h1 h2 h3 h4 h5 h6 h7 h8
theorem fnArity_range (k : Nat) : fnArity k = 2 ∨ fnArity k = 1 ∨ fnArity k = -1 := by
  unfold fnArity; split <;> simp
theorem field_arity (a b c d : Value) (w : World) : Sem.run Tryz.prog (Instr.field 139 (.agg #[a, b, c, d]) 0) w = .ok a w := by
  kernel_rfl
set_option maxRecDepth 100000 in
set_option maxHeartbeats 1000000 in
theorem arity_any (s : ByteArray) (w : World) : Calls Tryz.prog 117 #[.string s] w fun e w' => e = .returned (.int .i64 (fnArity (fnOf s))) ∧ Below w.heap.size w w' := by
  go_enter Tryz.func117, Tryz.ntmps117
  go_wp2_with fail
  refine (find_any s w).mono ?_
  rintro e w1 ⟨rfl, hb⟩
  have hf := field_arity
  go_wp2_with fail
  go_ret
  exact ⟨rfl, hb⟩

end Go.Proofs.YtgjemmdhamkngaaGreatDoor
