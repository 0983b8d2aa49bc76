/-
  Printed, NameOf, FitRight, Term, Variable
-/
import Derived.Test.YtgjemmdhamkngaaGreatDoorK03
import Derived.Test.YtgjemmdhamkngaaGreatDoorK01
import Derived.Test.YtgjemmdhamkngaaGreatDoorK02
namespace Go.Proofs.YtgjemmdhamkngaaGreatDoor
open Go.RowKit
mutual
theorem write_any (x : V) : WriteAt x := by
 cases x with
 | mk k n s l => exact write_of _ (fun l' e => by have e' : l = l' := e; rw [← e']; exact writeList_any l)
 termination_by SizeOf.sizeOf x
 decreasing_by simp only [V.mk.sizeOf_spec]; omega
theorem writeList_any (l : List V) : WriteListAt l := writeList_of l (fun x _hx => write_any x)
 termination_by SizeOf.sizeOf l
 decreasing_by exact List.sizeOf_lt_of_mem _hx
end
theorem decDigits_le : ∀ (k u : Nat), u < 10 ^ (k + 1) → (Lib.decDigits u).length ≤ k + 1
 | k, u, h => by
  rw [Lib.decDigits]
  split
  ·simp
  ·match k with
   | 0 => simp at h; omega
   | k + 1 =>
    have := decDigits_le k (u / 10) (by rw [Nat.pow_succ] at h; omega)
    simp only [List.length_append, List.length_cons, List.length_nil]
    omega
theorem decDigits_ne (u : Nat) : Lib.decDigits u ≠ [] := by
 rw [Lib.decDigits]; split <;> simp
theorem itoa_le (n : Int) (h : -2147483647 ≤ n ∧ n ≤ 2147483647) : (Lib.itoa n).length ≤ 11 := by
 unfold Lib.itoa
 split
 ·have := decDigits_le 9 n.natAbs (by omega)
  simp only [List.length_cons]; omega
 ·have := decDigits_le 9 n.toNat (by omega)
  omega
theorem itoa_ne (n : Int) : Lib.itoa n ≠ [] := by
 unfold Lib.itoa
 split
 ·simp
 ·exact decDigits_ne _
theorem textB_le {s : ByteArray} (h : textB s = true) : s.size ≤ 32 := (of_decide_eq_true h).1
theorem nameB_le {s : ByteArray} (h : nameB s = true) : 1 ≤ s.size ∧ s.size ≤ 16 := ⟨(of_decide_eq_true h).1, (of_decide_eq_true h).2.1⟩
theorem data_length (s : ByteArray) : s.data.toList.length = s.size := by simp
theorem prL_le {b : Nat} : ∀ (l : List V) (first : Bool), (∀ x, x ∈ l → (prV x).length ≤ b) → (prL first l).length ≤ l.length * (b + 1)
 | [], _, _ => by simp [prL]
 | x :: l, first, h => by
  have h1 := h x (by simp)
  have h2 := prL_le l false (fun y hy => h y (by simp [hy]))
  simp only [prL, List.length_append, List.length_cons]
  have h3 : (if first = true then [] else [44] : List UInt8).length ≤ 1 := by split <;> simp
  rw [Nat.succ_mul]
  omega
theorem baseB_cases {k n : Int} {s : ByteArray} {l : List V} {b : Bool} (h : baseB k n s l b = true) :
  (k = 1 ∧ s.toList.isEmpty = true ∧ l = [] ∧ -2147483647 ≤ n ∧ n ≤ 2147483647) ∨ (k = 2 ∧ n = 0 ∧ l = [] ∧ textB s = true) ∨ (k = 3 ∧ n = 0 ∧ l = [] ∧ nameB s = true) ∨ (k = 4 ∧ n = 0 ∧ s.toList.isEmpty = true ∧ b = true) := by
 unfold baseB at h
 split at h
 ·simp at h; simp_all
 ·split at h
  ·simp at h; simp_all
  ·split at h
   ·simp at h; simp_all
   ·split at h
    ·simp at h; simp_all
    ·cases h
theorem prV_le : ∀ (d : Nat) (x : V), rightV d x = true → (prV x).length ≤ 64 * 20 ^ d ∧ prV x ≠ []
 | d, .mk k n s l, h => by
  have hp : 1 ≤ 20 ^ d := Nat.one_le_pow _ _ (by omega)
  rw [rightV_mk] at h
  rcases baseB_cases h with ⟨rfl, _, _, h1, h2⟩ | ⟨rfl, _, _, h1⟩ | ⟨rfl, _, _, h1⟩ | ⟨rfl, _, _, h1⟩
  ·have := itoa_le n ⟨h1, h2⟩
   exact ⟨by simp only [prV, if_true]; omega, by simp only [prV, if_true]; exact itoa_ne n⟩
  ·have := textB_le h1
   refine ⟨?_, by simp [prV]⟩
   simp only [prV, if_true]
   rw [if_neg (by decide)]
   simp only [List.length_cons, List.length_append, List.length_nil, data_length]
   omega
  ·have := nameB_le h1
   have e : prV (.mk 3 n s l) = s.data.toList := by simp [prV]
   rw [e]
   refine ⟨by rw [data_length]; omega, fun e0 => ?_⟩
   have := data_length s
   rw [e0] at this
   simp at this
   omega
  ·have e : prV (.mk 4 n s l) = 91 :: (prL true l ++ [93]) := by simp [prV]
   rw [e]
   refine ⟨?_, by simp⟩
   match d, h1 with
   | d + 1, h1 =>
    simp only [rightL, Bool.and_eq_true, decide_eq_true_eq, List.all_eq_true] at h1
    have hq : 1 ≤ 20 ^ d := Nat.one_le_pow _ _ (by omega)
    have h2 := prL_le (b := 64 * 20 ^ d) l true (fun x hx => (prV_le d x (h1.2 x hx)).1)
    have h3 : l.length * (64 * 20 ^ d + 1) ≤ 16 * (64 * 20 ^ d + 1) := Nat.mul_le_mul_right _ h1.1
    simp only [List.length_cons, List.length_append, List.length_nil]
    rw [Nat.pow_succ]
    omega
theorem ret_str {a b : List UInt8} (h : a = b) : Ending.returned (.string ⟨a.toArray⟩) = .returned (.string ⟨b.toArray⟩) := by rw [h]
def printB (x : V) : List UInt8 := if rightV 4 x = true then prV x else []
set_option maxRecDepth 100000 in
set_option maxHeartbeats 1000000 in
theorem print_any (x : V) (B : Nat) (w : World) (c0 c1 c2 c3 : Value) (hB : B ≤ w.heap.size) (hgB : 0 < w.heap.size) (htab : TabOk w) (hx : RepV B w x c0 c1 c2 c3) :
  Calls Tryz.prog 85 #[.agg #[c0, c1, c2, c3]] w fun e w' => e = .returned (.string ⟨(printB x).toArray⟩) ∧ Below w.heap.size w w' := by
 obtain ⟨fa, fc, rfl, rfl, rfl, rfl⟩ := hx.form
 have HX := Lib.hid hx; clear hx
 have HTAB := Lib.hid htab; clear htab
 have hbb : Below w.heap.size w (w.alloc (.cells #[.int .i64 x.kind, .int .i64 x.num, .string x.text, .slice fa x.list.length fc] 44)) := stands_alloc _ _
 have HBOX := Lib.hid (alloc_new w (.cells #[.int .i64 x.kind, .int .i64 x.num, .string x.text, .slice fa x.list.length fc] 44))
 go_enter Tryz.func85, Tryz.ntmps85
 go_wp2_with fail
 refine (right_any x B _ _ _ _ _ (by simp; omega) (RepV.below (fun j hj => hbb.block j (by omega)) _ HX.out)).mono ?_
 rintro e w1 ⟨rfl, hb1⟩
 have hb2 : Below w.heap.size w w1 := hbb.trans (hb1.mono (by simp))
 have b1 : w1.heap[w.heap.size]? = _ := (hb1.block w.heap.size (by simp)).trans HBOX.out
 have hsz := hb2.size
 have hsz1 : w.heap.size < w1.heap.size := (Array.getElem?_eq_some_iff.1 b1).1
 have d0 := cell_of_block (i := 0) b1 _ rfl
 have d1 := cell_of_block (i := 1) b1 _ rfl
 have d2 := cell_of_block (i := 2) b1 _ rfl
 have d3 := cell_of_block (i := 3) b1 _ rfl
 clear b1
 cases hr : rightV 4 x with
 | false =>
  have HR := Lib.hid hr; clear hr
  go_wp2_with fail
  go_ret
  exact ⟨ret_str (a := []) (by rw [printB, if_neg (by simp [HR.out])]), hb2⟩
 | true =>
  have HR := Lib.hid hr; clear hr
  have HPL := Lib.hid (prV_le 4 x HR.out)
  go_wp2_with fail
  have hfr := Lib.IsBuilderF.of (Lib.fresh_isBuilder 106 5 w1)
  have hs3 : Below w1.heap.size w1 (w1.alloc (.cells #[.pointer none, .slice none 0 0] 106)) := stands_alloc _ _
  have hb3 : Below w.heap.size w (w1.alloc (.cells #[.pointer none, .slice none 0 0] 106)) := hb2.trans (hs3.mono hsz)
  refine (write_any x B w1.heap.size w1.heap.size [] _ _ _ _ _ (by omega) (by simp) (by omega) (HTAB.out.below hgB hb3) (RepV.below (fun j hj => hb3.block j (by omega)) _ HX.out) hfr (by have := HPL.out.1; simp; omega)).mono ?_
  rintro e w2 ⟨rfl, W2⟩
  clear d0 d1 d2 d3
  have W2b : Lib.IsBuilderF 106 5 w1.heap.size w1.heap.size (Lib.byteCells (prV x)) w2 := by simpa using W2.1
  go_wp2_with fail
  refine (Tryz.Builder_String_k _ _ (prV x) _ W2b HPL.out.2).mono ?_
  rintro e w4 ⟨rfl, _, hb4, _⟩
  go_wp2_with fail
  go_ret
  exact ⟨ret_str (a := prV x) (by rw [printB, if_pos HR.out]), (hb3.trans (W2.2.1.mono hsz)).trans (hb4.mono hsz)⟩
end Go.Proofs.YtgjemmdhamkngaaGreatDoor
namespace Go.Proofs.YtgjemmdhamkngaaGreatDoor.valueNames
open Go.RowKit
theorem nameByte_ok (i : Nat) (h : 1 ≤ i) (c : UInt8) : okAt i ((nameByte c).toNat : Int) = true := by
 have hi : decide (i = 0) = false := by simp; omega
 by_cases h1 : c.toNat % 37 < 26
 ·simp only [okAt, smallB, nameByte_small c h1, hi, Bool.or_eq_true, decide_eq_true_eq]; omega
 ·by_cases h2 : c.toNat % 37 < 36
  ·simp only [okAt, smallB, digitB, nameByte_digit c h1 h2, hi, Bool.or_eq_true, Bool.and_eq_true, decide_eq_true_eq, Bool.not_false]
   right; refine ⟨trivial, Or.inl ?_⟩; omega
  ·simp [okAt, smallB, digitB, nameByte_low c h1 h2, hi]
theorem ba_get (l : List UInt8) (i : Nat) (_h : i < (⟨l.toArray⟩ : ByteArray).size) (h' : i < l.length) : (⟨l.toArray⟩ : ByteArray)[i] = l[i] := by
 show l.toArray[i] = l[i]
 simp
theorem nameB_list (l : List UInt8) : nameB ⟨l.toArray⟩ = true ↔ (1 ≤ l.length ∧ l.length ≤ 16 ∧ ∀ i (h : i < l.length), okAt i (l[i].toNat : Int) = true) := by
 rw [nameB, decide_eq_true_eq]
 have hsz := size_mk l
 constructor
 ·rintro ⟨h1, h2, h3⟩
  exact ⟨by omega, by omega, fun i h => by have := h3 i (by omega); rwa [ba_get l i (by omega) h] at this⟩
 ·rintro ⟨h1, h2, h3⟩
  exact ⟨by omega, by omega, fun i h => by rw [ba_get l i h (by omega)]; exact h3 i _⟩
theorem nameOf_ok (s : ByteArray) : ∀ i (h : i < (nameOf s).length), okAt i ((nameOf s)[i].toNat : Int) = true := by
 intro i h
 match i, h with
 | 0, _ => simp [nameOf, okAt, smallB]
 | i + 1, h =>
  have : (nameOf s)[i + 1] = nameByte ((s.data.toList.take 15)[i]'(by simp [nameOf] at h; simp; omega)) := by simp [nameOf]
  rw [this]
  exact nameByte_ok (i + 1) (by omega) _
theorem name_of (s : ByteArray) : nameB ⟨(nameOf s).toArray⟩ = true :=
 (nameB_list _).2 ⟨by rw [nameOf_length]; omega, by rw [nameOf_length]; omega, nameOf_ok s⟩
end Go.Proofs.YtgjemmdhamkngaaGreatDoor.valueNames
namespace Go.Proofs.YtgjemmdhamkngaaGreatDoor
open Go.RowKit
theorem fitByte_ok (c : UInt8) : okText ((fitByte c).toNat : Int) = true := by
 by_cases h : 32 + c.toNat % 95 = 34 ∨ 32 + c.toNat % 95 = 92
 ·rw [fitByte_blank c h]; decide
 ·rw [fitByte_plain c (fun e => h (Or.inl e)) (fun e => h (Or.inr e))]
  have := Nat.mod_lt c.toNat (show 0 < 95 by omega)
  simp only [okText, decide_eq_true_eq]
  omega
theorem textOf_ok (s : ByteArray) : textB ⟨(textOf s).toArray⟩ = true := by
 refine textB_true (by rw [size_mk', textOf_length]; omega) (fun i h => ?_)
 have h' : i < (textOf s).length := by rw [size_mk'] at h; exact h
 rw [valueNames.ba_get _ i h h']
 have hr : i < (rawText s).length := by rw [textOf, List.length_map] at h'; exact h'
 have : (textOf s)[i] = fitByte (rawText s)[i] := by simp [textOf]
 rw [this]
 exact fitByte_ok _
theorem none_empty : (⟨#[]⟩ : ByteArray).toList.isEmpty = true := by rw [isEmpty_size]; rfl
theorem flat_right (d : Nat) (x : V) : rightV d (fitFlat x) = true := by
 obtain ⟨h1, h2⟩ := pickZ_bd x.num 4294967295 (by omega)
 unfold fitFlat
 split
 ·rw [rightV_mk]
  simp only [baseB, none_empty, List.isEmpty_nil, if_pos, Bool.and_eq_true, decide_eq_true_eq, Bool.true_and]
  omega
 ·split
  ·rw [rightV_mk]; simp [baseB, textOf_ok]
  ·rw [rightV_mk]; simp [baseB, valueNames.name_of]
theorem fit_right : ∀ (d : Nat) (x : V), rightV d (fitV d x) = true
 | 0, x => flat_right 0 x
 | d + 1, x => by
  unfold fitV
  split
  ·rw [rightV_mk]
   have hl : ((x.list.take 16).map fun y => fitV d (unlist (d + 1) y)).length ≤ 16 := by simp; omega
   have ha : (((x.list.take 16).map fun y => fitV d (unlist (d + 1) y)).all (rightV d)) = true := by
    rw [List.all_eq_true]
    intro y hy
    obtain ⟨z, _, rfl⟩ := List.mem_map.1 hy
    exact fit_right d _
   simp only [baseB, none_empty, rightL, ha, hl, decide_true]
   simp
  ·exact flat_right _ x
end Go.Proofs.YtgjemmdhamkngaaGreatDoor
namespace Go.Proofs.YtgjemmdhamkngaaGreatDoor
open Go.RowKit
def SlG {α : Type} (S : Nat → Prop) (w : World) (n bytes : Nat) (R : α → (Nat → Value) → Prop) (l : List α) (v : Value) : Prop :=
 ∃ (a : Option Addr) (b o cap : Nat), v = .slice a l.length cap ∧ l.length ≤ cap ∧ l.length * bytes ≤ 140737488355328 ∧ (0 < cap → a = some ⟨b, o, none⟩) ∧ (0 < l.length → S b) ∧
  ∀ i (h : i < l.length), ∃ c : Nat → Value, (∀ j, j < n → w.cell? ⟨b, o + i * n + j, none⟩ = some (c j)) ∧ R l[i] c
theorem SlG.on {α : Type} {S S' : Nat → Prop} {w w' : World} {n bytes : Nat} {R R' : α → (Nat → Value) → Prop} {l : List α} {v : Value} (hS : ∀ k, S k → S' k) (hw : ∀ k, S k → w'.heap[k]? = w.heap[k]?) (hR : ∀ x ∈ l, ∀ c, R x c → R' x c) (h : SlG S w n bytes R l v) : SlG S' w' n bytes R' l v := by
 obtain ⟨a, b, o, cap, e, h6, h7, h8, h9, h10⟩ := h
 refine ⟨a, b, o, cap, e, h6, h7, h8, fun h => hS _ (h9 h), fun i hi => ?_⟩
 obtain ⟨c, hc, hr⟩ := h10 i hi
 have hb : S b := h9 (by omega)
 exact ⟨c, fun j hj => (World.cell?_of_block (w := w) (hw b hb)).trans (hc j hj), hR _ (List.getElem_mem hi) c hr⟩
theorem SlG.form {α : Type} {S : Nat → Prop} {w : World} {n bytes : Nat} {R : α → (Nat → Value) → Prop} {l : List α} {v : Value} (h : SlG S w n bytes R l v) : ∃ (a : Option Addr) (cap : Nat), v = .slice a l.length cap := by
 obtain ⟨a, b, o, cap, e, -⟩ := h
 exact ⟨a, cap, e⟩
theorem SlG.at {α : Type} {S : Nat → Prop} {w : World} {n bytes : Nat} {R : α → (Nat → Value) → Prop} {l : List α} {a : Option Addr} {len cap : Nat} (h : SlG S w n bytes R l (.slice a len cap)) (i : Nat) (hi : i < l.length) :
  len = l.length ∧ l.length ≤ cap ∧ ∃ (b o : Nat), a = some ⟨b, o, none⟩ ∧ S b ∧ ∃ c : Nat → Value, (∀ j, j < n → w.cell? ⟨b, o + i * n + j, none⟩ = some (c j)) ∧ R l[i] c := by
 obtain ⟨a', b, o, cap', e, h6, h7, h8, h9, h10⟩ := h
 cases e
 exact ⟨rfl, h6, b, o, h8 (by omega), h9 (by omega), h10 i hi⟩
theorem SlG.bytes {α : Type} {S : Nat → Prop} {w : World} {n bytes : Nat} {R : α → (Nat → Value) → Prop} {l : List α} {v : Value} (h : SlG S w n bytes R l v) : l.length * bytes ≤ 140737488355328 := by
 obtain ⟨a, b, o, cap, e, h6, h7, -⟩ := h
 exact h7
inductive Tm where
 | mk (kind : Int) (name : ByteArray) (val : V) (args : List Tm) : Tm
namespace Tm
def kind : Tm → Int | mk k _ _ _ => k
def name : Tm → ByteArray | mk _ s _ _ => s
def val : Tm → V | mk _ _ x _ => x
def args : Tm → List Tm | mk _ _ _ l => l
end Tm
def RepM (S : Nat → Prop) (w : World) : Tm → Value → Value → Value → Value → Value → Value → Value → Prop
 | .mk k s x l, c0, c1, c2, c3, c4, c5, c6 => c0 = .int .i64 k ∧ c1 = .string s ∧ I64 k ∧ s.size ≤ maxLen ∧ RepG S w x c2 c3 c4 c5 ∧
   ∃ (a : Option Addr) (b o cap : Nat), c6 = .slice a l.length cap ∧ l.length ≤ cap ∧ l.length * 104 ≤ 140737488355328 ∧ (0 < cap → a = some ⟨b, o, none⟩) ∧ (0 < l.length → S b) ∧
    ∀ i (h : i < l.length), ∃ c : Nat → Value, (∀ j, j < 7 → w.cell? ⟨b, o + i * 7 + j, none⟩ = some (c j)) ∧ RepM S w l[i] (c 0) (c 1) (c 2) (c 3) (c 4) (c 5) (c 6)
 termination_by x => SizeOf.sizeOf x
 decreasing_by
  have := List.sizeOf_lt_of_mem (List.getElem_mem h)
  simp only [Tm.mk.sizeOf_spec]
  omega
def RepMs (S : Nat → Prop) (w : World) (l : List Tm) (v : Value) : Prop := SlG S w 7 104 (fun x c => RepM S w x (c 0) (c 1) (c 2) (c 3) (c 4) (c 5) (c 6)) l v
theorem repM_mk {S : Nat → Prop} {w : World} {k : Int} {s : ByteArray} {x : V} {l : List Tm} {c0 c1 c2 c3 c4 c5 c6 : Value} :
  RepM S w (.mk k s x l) c0 c1 c2 c3 c4 c5 c6 ↔ (c0 = .int .i64 k ∧ c1 = .string s ∧ I64 k ∧ s.size ≤ maxLen ∧ RepG S w x c2 c3 c4 c5 ∧ RepMs S w l c6) := by
 rw [RepM]; rfl
theorem RepM.on {S S' : Nat → Prop} {w w' : World} (hS : ∀ k, S k → S' k) (hw : ∀ k, S k → w'.heap[k]? = w.heap[k]?) : ∀ (x : Tm) {c0 c1 c2 c3 c4 c5 c6 : Value}, RepM S w x c0 c1 c2 c3 c4 c5 c6 → RepM S' w' x c0 c1 c2 c3 c4 c5 c6
 | .mk k s x l, c0, c1, c2, c3, c4, c5, c6, h => by
  rw [repM_mk] at h ⊢
  obtain ⟨h0, h1, h2, h3, h4, a, b, o, cap, e, h6, h7, h8, h9, h10⟩ := h
  refine ⟨h0, h1, h2, h3, RepG.on hS hw x h4, a, b, o, cap, e, h6, h7, h8, fun h => hS _ (h9 h), fun i hi => ?_⟩
  obtain ⟨c, hc, hr⟩ := h10 i hi
  have hb : S b := h9 (by omega)
  exact ⟨c, fun j hj => (World.cell?_of_block (w := w) (hw b hb)).trans (hc j hj), RepM.on hS hw l[i] hr⟩
 termination_by x => SizeOf.sizeOf x
 decreasing_by
  have := List.sizeOf_lt_of_mem (List.getElem_mem hi)
  simp only [Tm.mk.sizeOf_spec]
  omega
theorem RepMs.on {S S' : Nat → Prop} {w w' : World} (hS : ∀ k, S k → S' k) (hw : ∀ k, S k → w'.heap[k]? = w.heap[k]?) {l : List Tm} {v : Value} (h : RepMs S w l v) : RepMs S' w' l v :=
 SlG.on hS hw (fun x _ _ hx => RepM.on hS hw x hx) h
theorem RepM.form {S : Nat → Prop} {w : World} {x : Tm} {c0 c1 c2 c3 c4 c5 c6 : Value} (h : RepM S w x c0 c1 c2 c3 c4 c5 c6) :
  ∃ (fa : Option Addr) (fc : Nat) (ga : Option Addr) (gc : Nat), c0 = .int .i64 x.kind ∧ c1 = .string x.name ∧ c2 = .int .i64 x.val.kind ∧ c3 = .int .i64 x.val.num ∧ c4 = .string x.val.text ∧ c5 = .slice fa x.val.list.length fc ∧ c6 = .slice ga x.args.length gc := by
 cases x with
 | mk k s x l =>
  rw [repM_mk] at h
  obtain ⟨h0, h1, -, -, h4, h5⟩ := h
  obtain ⟨fa, fc, e2, e3, e4, e5⟩ := h4.form
  obtain ⟨ga, gc, e6⟩ := SlG.form h5
  exact ⟨fa, fc, ga, gc, h0, h1, e2, e3, e4, e5, e6⟩
theorem RepM.value {S : Nat → Prop} {w : World} {x : Tm} {c0 c1 c2 c3 c4 c5 c6 : Value} (h : RepM S w x c0 c1 c2 c3 c4 c5 c6) : RepG S w x.val c2 c3 c4 c5 := by
 cases x with
 | mk k s x l => exact (repM_mk.1 h).2.2.2.2.1
theorem RepM.lst {S : Nat → Prop} {w : World} {x : Tm} {c0 c1 c2 c3 c4 c5 c6 : Value} (h : RepM S w x c0 c1 c2 c3 c4 c5 c6) : RepMs S w x.args c6 := by
 cases x with
 | mk k s x l => exact (repM_mk.1 h).2.2.2.2.2
theorem RepM.bounds {S : Nat → Prop} {w : World} {x : Tm} {c0 c1 c2 c3 c4 c5 c6 : Value} (h : RepM S w x c0 c1 c2 c3 c4 c5 c6) : I64 x.kind ∧ x.name.size ≤ maxLen := by
 cases x with
 | mk k s x l => exact ⟨(repM_mk.1 h).2.2.1, (repM_mk.1 h).2.2.2.1⟩
def TmAt (S : Nat → Prop) (w : World) (x : Tm) (fa : Option Addr) (fc : Nat) (ga : Option Addr) (gc : Nat) : Prop :=
 RepM S w x (.int .i64 x.kind) (.string x.name) (.int .i64 x.val.kind) (.int .i64 x.val.num) (.string x.val.text) (.slice fa x.val.list.length fc) (.slice ga x.args.length gc)
theorem RepMs.at {S : Nat → Prop} {w : World} {l : List Tm} {a : Option Addr} {len cap : Nat} (h : RepMs S w l (.slice a len cap)) (i : Nat) (hi : i < l.length) :
  len = l.length ∧ l.length ≤ cap ∧ ∃ (b o : Nat) (fa : Option Addr) (fc : Nat) (ga : Option Addr) (gc : Nat), a = some ⟨b, o, none⟩ ∧ S b ∧
   w.cell? ⟨b, o + i * 7, none⟩ = some (.int .i64 l[i].kind) ∧ w.cell? ⟨b, o + i * 7 + 1, none⟩ = some (.string l[i].name) ∧ w.cell? ⟨b, o + i * 7 + 2, none⟩ = some (.int .i64 l[i].val.kind) ∧ w.cell? ⟨b, o + i * 7 + 3, none⟩ = some (.int .i64 l[i].val.num) ∧
   w.cell? ⟨b, o + i * 7 + 4, none⟩ = some (.string l[i].val.text) ∧ w.cell? ⟨b, o + i * 7 + 5, none⟩ = some (.slice fa l[i].val.list.length fc) ∧ w.cell? ⟨b, o + i * 7 + 6, none⟩ = some (.slice ga l[i].args.length gc) ∧ TmAt S w l[i] fa fc ga gc := by
 obtain ⟨h1, h2, b, o, h3, h4, c, hc, hr⟩ := SlG.at h i hi
 obtain ⟨fa, fc, ga, gc, e0, e1, e2, e3, e4, e5, e6⟩ := hr.form
 rw [e0, e1, e2, e3, e4, e5, e6] at hr
 exact ⟨h1, h2, b, o, fa, fc, ga, gc, h3, h4, by rw [← e0]; exact hc 0 (by omega), by rw [← e1]; exact hc 1 (by omega), by rw [← e2]; exact hc 2 (by omega), by rw [← e3]; exact hc 3 (by omega), by rw [← e4]; exact hc 4 (by omega), by rw [← e5]; exact hc 5 (by omega), by rw [← e6]; exact hc 6 (by omega), hr⟩
structure Li where
 kind : Int
 name : ByteArray
 args : List Tm
def RepLi (S : Nat → Prop) (w : World) (x : Li) (c0 c1 c2 : Value) : Prop := c0 = .int .i64 x.kind ∧ c1 = .string x.name ∧ I64 x.kind ∧ x.name.size ≤ maxLen ∧ RepMs S w x.args c2
def RepLis (S : Nat → Prop) (w : World) (l : List Li) (v : Value) : Prop := SlG S w 3 48 (fun x c => RepLi S w x (c 0) (c 1) (c 2)) l v
structure Ru where
 label : ByteArray
 head : ByteArray
 args : List Tm
 agg : ByteArray
 at' : Int
 body : List Li
def RepRu (S : Nat → Prop) (w : World) (x : Ru) (c0 c1 c2 c3 c4 c5 : Value) : Prop := c0 = .string x.label ∧ c1 = .string x.head ∧ c3 = .string x.agg ∧ c4 = .int .i64 x.at' ∧ x.label.size ≤ maxLen ∧ x.head.size ≤ maxLen ∧ x.agg.size ≤ maxLen ∧ I64 x.at' ∧ RepMs S w x.args c2 ∧ RepLis S w x.body c5
def RepRus (S : Nat → Prop) (w : World) (l : List Ru) (v : Value) : Prop := SlG S w 6 104 (fun x c => RepRu S w x (c 0) (c 1) (c 2) (c 3) (c 4) (c 5)) l v
structure De where
 name : ByteArray
 arity : Int
def RepDe (_S : Nat → Prop) (_w : World) (x : De) (c0 c1 : Value) : Prop := c0 = .string x.name ∧ c1 = .int .i64 x.arity ∧ x.name.size ≤ maxLen ∧ I64 x.arity
def RepDes (S : Nat → Prop) (w : World) (l : List De) (v : Value) : Prop := SlG S w 2 24 (fun x c => RepDe S w x (c 0) (c 1)) l v
structure Fa where
 name : ByteArray
 args : List V
def RepFa (S : Nat → Prop) (w : World) (x : Fa) (c0 c1 : Value) : Prop := c0 = .string x.name ∧ x.name.size ≤ maxLen ∧ RepLG S w x.args c1
def RepFas (S : Nat → Prop) (w : World) (l : List Fa) (v : Value) : Prop := SlG S w 2 40 (fun x c => RepFa S w x (c 0) (c 1)) l v
structure Pr where
 decls : List De
 facts : List Fa
 rules : List Ru
def RepPr (S : Nat → Prop) (w : World) (x : Pr) (c0 c1 c2 : Value) : Prop := RepDes S w x.decls c0 ∧ RepFas S w x.facts c1 ∧ RepRus S w x.rules c2
section
variable {S S' : Nat → Prop} {w w' : World} (hS : ∀ k, S k → S' k) (hw : ∀ k, S k → w'.heap[k]? = w.heap[k]?)
include hS hw
theorem RepLi.on {x : Li} {c0 c1 c2 : Value} (h : RepLi S w x c0 c1 c2) : RepLi S' w' x c0 c1 c2 := ⟨h.1, h.2.1, h.2.2.1, h.2.2.2.1, RepMs.on hS hw h.2.2.2.2⟩
theorem RepLis.on {l : List Li} {v : Value} (h : RepLis S w l v) : RepLis S' w' l v := SlG.on hS hw (fun _ _ _ hx => RepLi.on hS hw hx) h
theorem RepRu.on {x : Ru} {c0 c1 c2 c3 c4 c5 : Value} (h : RepRu S w x c0 c1 c2 c3 c4 c5) : RepRu S' w' x c0 c1 c2 c3 c4 c5 := by
 obtain ⟨h0, h1, h2, h3, h4, h5, h6, h7, h8, h9⟩ := h
 exact ⟨h0, h1, h2, h3, h4, h5, h6, h7, RepMs.on hS hw h8, RepLis.on hS hw h9⟩
theorem RepRus.on {l : List Ru} {v : Value} (h : RepRus S w l v) : RepRus S' w' l v := SlG.on hS hw (fun _ _ _ hx => RepRu.on hS hw hx) h
theorem RepDes.on {l : List De} {v : Value} (h : RepDes S w l v) : RepDes S' w' l v := SlG.on hS hw (fun _ _ _ hx => hx) h
theorem RepFa.on {x : Fa} {c0 c1 : Value} (h : RepFa S w x c0 c1) : RepFa S' w' x c0 c1 := ⟨h.1, h.2.1, RepLG.on hS hw h.2.2⟩
theorem RepFas.on {l : List Fa} {v : Value} (h : RepFas S w l v) : RepFas S' w' l v := SlG.on hS hw (fun _ _ _ hx => RepFa.on hS hw hx) h
theorem RepPr.on {x : Pr} {c0 c1 c2 : Value} (h : RepPr S w x c0 c1 c2) : RepPr S' w' x c0 c1 c2 := ⟨RepDes.on hS hw h.1, RepFas.on hS hw h.2.1, RepRus.on hS hw h.2.2⟩
end
end Go.Proofs.YtgjemmdhamkngaaGreatDoor
namespace Go.Proofs.YtgjemmdhamkngaaGreatDoor
open Go.RowKit
def greatB (r : Int) : Bool := decide (65 ≤ r ∧ r ≤ 90)
def okVar (i : Nat) (r : Int) : Bool := greatB r || (!(decide (i = 0)) && (smallB r || (digitB r || (r == 95))))
def varB (s : ByteArray) : Bool := decide (1 ≤ s.size ∧ s.size ≤ 16 ∧ ∀ i (h : i < s.size), okVar i (s[i].toNat : Int) = true)
theorem okVar_high (i : Nat) (r : Int) (h : 128 ≤ r) : okVar i r = false := by
 simp only [okVar, greatB, smallB, digitB, Bool.or_eq_false_iff, Bool.and_eq_false_iff, decide_eq_false_iff_not, beq_eq_false_iff_ne, Bool.not_eq_false', decide_eq_true_eq]
 omega
theorem varB_true {s : ByteArray} (h1 : 1 ≤ s.size) (h2 : s.size ≤ 16) (h : ∀ i (h : i < s.size), okVar i (s[i].toNat : Int) = true) : varB s = true := decide_eq_true ⟨h1, h2, h⟩
theorem varB_false {s : ByteArray} {i : Nat} (h : i < s.size) (e : okVar i (s[i].toNat : Int) = false) : varB s = false := decide_eq_false fun ⟨_, _, g⟩ => by rw [g i h] at e; cases e
theorem varB_size {s : ByteArray} (h : s.size < 1 ∨ 16 < s.size) : varB s = false := decide_eq_false fun ⟨_, _, _⟩ => by omega
theorem pgreat_any (r : Int) (w : World) : Calls Tryz.prog 111 #[.int .i32 r] w fun e w' => e = .returned (.bool (greatB r)) ∧ w = w' := by
 by_cases h1 : 65 ≤ r
 ·by_cases h2 : r ≤ 90
  ·have HF : Hid (greatB r = true) := decide_eq_true ⟨h1, h2⟩
   go_enter Tryz.func111, Tryz.ntmps111
   go_wp2
   go_ret
   exact ⟨ret_bool HF.out.symm, rfl⟩
  ·have HF : Hid (greatB r = false) := decide_eq_false (by omega)
   go_enter Tryz.func111, Tryz.ntmps111
   go_wp2
   go_ret
   exact ⟨ret_bool HF.out.symm, rfl⟩
 ·have HF : Hid (greatB r = false) := decide_eq_false (by omega)
  have hd : decide (65 ≤ r) = false := by simpa using h1
  go_enter Tryz.func111, Tryz.ntmps111
  go_wp2
  go_ret
  exact ⟨ret_bool HF.out.symm, rfl⟩
theorem psmall_any (r : Int) (w : World) : Calls Tryz.prog 112 #[.int .i32 r] w fun e w' => e = .returned (.bool (smallB r)) ∧ w = w' := by
 by_cases h1 : 97 ≤ r
 ·by_cases h2 : r ≤ 122
  ·have HF : Hid (smallB r = true) := decide_eq_true ⟨h1, h2⟩
   go_enter Tryz.func112, Tryz.ntmps112
   go_wp2
   go_ret
   exact ⟨ret_bool HF.out.symm, rfl⟩
  ·have HF : Hid (smallB r = false) := decide_eq_false (by omega)
   go_enter Tryz.func112, Tryz.ntmps112
   go_wp2
   go_ret
   exact ⟨ret_bool HF.out.symm, rfl⟩
 ·have HF : Hid (smallB r = false) := decide_eq_false (by omega)
  have hd : decide (97 ≤ r) = false := by simpa using h1
  go_enter Tryz.func112, Tryz.ntmps112
  go_wp2
  go_ret
  exact ⟨ret_bool HF.out.symm, rfl⟩
theorem pdigit_any (r : Int) (w : World) : Calls Tryz.prog 113 #[.int .i32 r] w fun e w' => e = .returned (.bool (digitB r)) ∧ w = w' := by
 by_cases h1 : 48 ≤ r
 ·by_cases h2 : r ≤ 57
  ·have HF : Hid (digitB r = true) := decide_eq_true ⟨h1, h2⟩
   go_enter Tryz.func113, Tryz.ntmps113
   go_wp2
   go_ret
   exact ⟨ret_bool HF.out.symm, rfl⟩
  ·have HF : Hid (digitB r = false) := decide_eq_false (by omega)
   go_enter Tryz.func113, Tryz.ntmps113
   go_wp2
   go_ret
   exact ⟨ret_bool HF.out.symm, rfl⟩
 ·have HF : Hid (digitB r = false) := decide_eq_false (by omega)
  have hd : decide (48 ≤ r) = false := by simpa using h1
  go_enter Tryz.func113, Tryz.ntmps113
  go_wp2
  go_ret
  exact ⟨ret_bool HF.out.symm, rfl⟩
set_option maxRecDepth 100000 in
set_option maxHeartbeats 1000000 in
theorem variable_any (s : ByteArray) (w : World) (hs : s.size ≤ maxLen) :
  Calls Tryz.prog 92 #[.string s] w fun e w' => e = .returned (.bool (varB s)) ∧ Below w.heap.size w w' := by
 unfold maxLen at hs
 by_cases hz : s.size < 1
 ·have HF := Lib.hid (varB_size (s := s) (Or.inl hz))
  go_enter Tryz.func92, Tryz.ntmps92
  go_wp2_with fail
  go_ret
  exact ⟨ret_bool HF.out.symm, Below.refl _ _⟩
 by_cases hz2 : 16 < s.size
 ·have HF := Lib.hid (varB_size (s := s) (Or.inr hz2))
  go_enter Tryz.func92, Tryz.ntmps92
  go_wp2_with fail
  go_ret
  exact ⟨ret_bool HF.out.symm, Below.refl _ _⟩
 have hb1 : decide ((s.size : Int) < 1) = false := by simp; omega
 have hb2 : decide (16 < (s.size : Int)) = false := by simp; omega
 go_enter Tryz.func92, Tryz.ntmps92
 go_wp2_with fail
 go_loopw [2] (fun _ w' => ∃ (pos : Nat), w' = w.iter s pos ∧ pos ≤ s.size ∧ Hid (∀ i (h : i < s.size), i < pos → okVar i (s[i].toNat : Int) = true)) (fun _ w' => s.size - w'.iterPos w.heap.size)
 case atStart => exact ⟨0, rfl, Nat.zero_le _, fun i _ hi => by omega⟩
 case round =>
  obtain ⟨pos, rfl, hpos, hok⟩ := hrel
  have hbel : Below w.heap.size w (w.iter s (pos + (Utf8.decode s pos).2)) := (Below.refl _ w).alloc (Nat.le_refl _) _
  have hbel0 : Below w.heap.size w (w.iter s pos) := (Below.refl _ w).alloc (Nat.le_refl _) _
  by_cases hp : pos < s.size
  ·have hnx : ∀ ty, (Instr.next (.pointer (some ⟨w.heap.size, 0, none⟩)) true ty).run Tryz.prog (w.iter s pos) = _ := fun ty => run_next_any w s pos ty hp
   have hru := rune_at s pos hp
   have HOK : Hid ((okVar pos ((Utf8.decode s pos).1 : Int) = true → okVar pos (s[pos].toNat : Int) = true ∧ (Utf8.decode s pos).2 = 1) ∧ (okVar pos ((Utf8.decode s pos).1 : Int) = false → okVar pos (s[pos].toNat : Int) = false)) := by
    show _ ∧ _
    rcases hru with ⟨c, hc, he, hcc⟩ | ⟨h1, h2, h3⟩
    ·rw [he, hcc]; exact ⟨fun h => ⟨h, rfl⟩, fun h => h⟩
    ·rw [okVar_high _ _ (by omega : (128 : Int) ≤ ((Utf8.decode s pos).1 : Int)), okVar_high _ _ (by omega : (128 : Int) ≤ (s[pos].toNat : Int))]; exact ⟨(fun h => by cases h), fun h => h⟩
   clear hru
   generalize hd : Utf8.decode s pos = d at *
   obtain ⟨r, wd⟩ := d
   clear hd
   dsimp only at hnx HOK hbel
   cases h0 : greatB (r : Int) with
   | true =>
    have HK : Hid (okVar pos (r : Int) = true) := by show _ = _; simp [okVar, h0]
    go_wp2_with (first | (go_at_call 111; refine (pgreat_any _ _).mono ?_; rintro e w' ⟨rfl, rfl⟩) | (go_at_call 112; refine (psmall_any _ _).mono ?_; rintro e w' ⟨rfl, rfl⟩) | (go_at_call 113; refine (pdigit_any _ _).mono ?_; rintro e w' ⟨rfl, rfl⟩))
    go_roundw
    case rel =>
     obtain ⟨g1, g2⟩ := HOK.out.1 HK.out
     refine ⟨pos + wd, rfl, by omega, fun i hi hi2 => ?_⟩
     by_cases e : i = pos
     ·subst e; exact g1
     ·exact hok.out i hi (by omega)
    case measure =>
     obtain ⟨g1, g2⟩ := HOK.out.1 HK.out
     simp
     omega
   | false =>
   by_cases h2 : pos = 0
   ·have HK : Hid (okVar pos (r : Int) = false) := by show _ = _; simp [okVar, h0, h2]
    have h2' : ((pos : Int) == 0) = true := by simp [h2]
    clear h2
    go_wp2_with (first | (go_at_call 111; refine (pgreat_any _ _).mono ?_; rintro e w' ⟨rfl, rfl⟩) | (go_at_call 112; refine (psmall_any _ _).mono ?_; rintro e w' ⟨rfl, rfl⟩) | (go_at_call 113; refine (pdigit_any _ _).mono ?_; rintro e w' ⟨rfl, rfl⟩))
    go_ret
    exact ⟨ret_bool (varB_false hp (HOK.out.2 HK.out)).symm, hbel⟩
   have h2' : ((pos : Int) == 0) = false := by simp [h2]
   cases h1 : smallB (r : Int) with
   | true =>
    have HK : Hid (okVar pos (r : Int) = true) := by show _ = _; simp [okVar, h1, h2]
    clear h2
    go_wp2_with (first | (go_at_call 111; refine (pgreat_any _ _).mono ?_; rintro e w' ⟨rfl, rfl⟩) | (go_at_call 112; refine (psmall_any _ _).mono ?_; rintro e w' ⟨rfl, rfl⟩) | (go_at_call 113; refine (pdigit_any _ _).mono ?_; rintro e w' ⟨rfl, rfl⟩))
    go_roundw
    case rel =>
     obtain ⟨g1, g2⟩ := HOK.out.1 HK.out
     refine ⟨pos + wd, rfl, by omega, fun i hi hi2 => ?_⟩
     by_cases e : i = pos
     ·subst e; exact g1
     ·exact hok.out i hi (by omega)
    case measure =>
     obtain ⟨g1, g2⟩ := HOK.out.1 HK.out
     simp
     omega
   | false =>
   cases h3 : digitB (r : Int) with
   | true =>
    have HK : Hid (okVar pos (r : Int) = true) := by show _ = _; simp [okVar, h2, h3]
    clear h2
    go_wp2_with (first | (go_at_call 111; refine (pgreat_any _ _).mono ?_; rintro e w' ⟨rfl, rfl⟩) | (go_at_call 112; refine (psmall_any _ _).mono ?_; rintro e w' ⟨rfl, rfl⟩) | (go_at_call 113; refine (pdigit_any _ _).mono ?_; rintro e w' ⟨rfl, rfl⟩))
    go_roundw
    case rel =>
     obtain ⟨g1, g2⟩ := HOK.out.1 HK.out
     refine ⟨pos + wd, rfl, by omega, fun i hi hi2 => ?_⟩
     by_cases e : i = pos
     ·subst e; exact g1
     ·exact hok.out i hi (by omega)
    case measure =>
     obtain ⟨g1, g2⟩ := HOK.out.1 HK.out
     simp
     omega
   | false =>
   by_cases h4 : (r : Int) = 95
   ·have HK : Hid (okVar pos (r : Int) = true) := by show _ = _; simp [okVar, h2, h4]
    have h4' : ((r : Int) != 95) = false := by simp [h4]
    clear h2 h4
    go_wp2_with (first | (go_at_call 111; refine (pgreat_any _ _).mono ?_; rintro e w' ⟨rfl, rfl⟩) | (go_at_call 112; refine (psmall_any _ _).mono ?_; rintro e w' ⟨rfl, rfl⟩) | (go_at_call 113; refine (pdigit_any _ _).mono ?_; rintro e w' ⟨rfl, rfl⟩))
    go_roundw
    case rel =>
     obtain ⟨g1, g2⟩ := HOK.out.1 HK.out
     refine ⟨pos + wd, rfl, by omega, fun i hi hi2 => ?_⟩
     by_cases e : i = pos
     ·subst e; exact g1
     ·exact hok.out i hi (by omega)
    case measure =>
     obtain ⟨g1, g2⟩ := HOK.out.1 HK.out
     simp
     omega
   ·have HK : Hid (okVar pos (r : Int) = false) := by show _ = _; simp [okVar, h0, h1, h3, h4]
    have h4' : ((r : Int) != 95) = true := by simp [h4]
    clear h2 h4
    go_wp2_with (first | (go_at_call 111; refine (pgreat_any _ _).mono ?_; rintro e w' ⟨rfl, rfl⟩) | (go_at_call 112; refine (psmall_any _ _).mono ?_; rintro e w' ⟨rfl, rfl⟩) | (go_at_call 113; refine (pdigit_any _ _).mono ?_; rintro e w' ⟨rfl, rfl⟩))
    go_ret
    exact ⟨ret_bool (varB_false hp (HOK.out.2 HK.out)).symm, hbel⟩
  ·have hnx : ∀ ty, (Instr.next (.pointer (some ⟨w.heap.size, 0, none⟩)) true ty).run Tryz.prog (w.iter s pos) = _ := fun ty => run_next_end w s pos ty hp
   have HF := Lib.hid (varB_true (s := s) (by omega) (by omega) (fun i hi => hok.out i hi (by omega)))
   go_wp2_with fail
   go_ret
   exact ⟨ret_bool HF.out.symm, hbel0⟩
end Go.Proofs.YtgjemmdhamkngaaGreatDoor
