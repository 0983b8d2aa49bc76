/-
  FitPr, PickFour, RefArity, StrAdd, Relation, RowKit
-/
import Derived.Test.YtjmnnjikmmglpaaKD21
import Derived.Test.YtjmnnjikmmglpaaKD08
import Derived.Test.YtjmnnjikmmglpaaKD17
import Derived.Test.YtjmnnjikmmglpaaKD10
import Derived.Test.YtjmnnjikmmglpaaKD07
import Derived.Test.YtjmnnjikmmglpaaKD01
import Derived.Lib.IndexBytes
namespace Go.Proofs.Ytjmnnjikmmglpaa
open Go.RowKit
def nV : V := .mk 0 0 ⟨#[]⟩ []
def relOf (s : ByteArray) : ByteArray := if fnB ⟨(nameOf s).toArray⟩ = true ∨ declB ⟨(nameOf s).toArray⟩ = true then ⟨#[110]⟩ else ⟨(nameOf s).toArray⟩
def varOf (s : ByteArray) : ByteArray := ⟨(86 :: (nameOf s).tail).toArray⟩
theorem rel_n : relB ⟨#[110]⟩ = true := by kernel_rfl
theorem relOf_right (s : ByteArray) : relB (relOf s) = true := by
 unfold relOf
 split
 ·exact rel_n
 ·rename_i h
  rw [relB, valueNames.name_of]
  cases h1 : fnB ⟨(nameOf s).toArray⟩ with
  | true => exact absurd (.inl h1) h
  | false =>
   cases h2 : declB ⟨(nameOf s).toArray⟩ with
   | true => exact absurd (.inr h2) h
   | false => rfl
theorem varOf_right (s : ByteArray) : varB (varOf s) = true := by
 have hn : (varOf s).size = (nameOf s).length := by
  rw [varOf, size_mk, List.length_cons, List.length_tail, nameOf_length]; omega
 have hl := nameOf_length s;refine varB_true (by omega) (by omega) (fun i hi => ?_);have hi' : i < (86 :: (nameOf s).tail).length := by rw [varOf, size_mk] at hi; exact hi
 have e : (varOf s)[i] = (86 :: (nameOf s).tail)[i] := valueNames.ba_get (86 :: (nameOf s).tail) i hi hi';refine (congrArg (fun c : UInt8 => okVar i (c.toNat : Int)) e).trans ?_
 match i, hi' with
 | 0, _ => simp only [List.getElem_cons_zero]; decide
 | i + 1, h =>
  have h2 : i + 1 < (nameOf s).length := by rw [List.length_cons, List.length_tail] at h; omega
  have h1 := valueNames.nameOf_ok s (i + 1) h2;rw [List.getElem_cons_succ, List.getElem_tail];have hz : decide (i + 1 = 0) = false := by simp
  simp only [okAt, okVar, hz, Bool.not_false, Bool.true_and, Bool.or_eq_true] at h1 ⊢
  exact .inr h1
theorem relOf_size (s : ByteArray) : (relOf s).size ≤ 16 := relB_le (relOf_right s)
theorem varOf_size (s : ByteArray) : (varOf s).size ≤ 16 := varB_le (varOf_right s)
def fitVal (x : V) : V := if (fitV 4 x).kind = 3 then .mk 3 (fitV 4 x).num (relOf (fitV 4 x).text) (fitV 4 x).list else fitV 4 x
def fitFnN (i : Nat) : Nat := [0, 4, 3, 5, 8, 2].getD i 0
def fitFn (i : Nat) : ByteArray := ⟨(fname (fitFnN i)).toArray⟩
def fitOp (i : Nat) : ByteArray := ⟨#[[43, 45, 42].getD i 43]⟩
def fitFnAt (s : ByteArray) (k : Int) : Nat := (pickZ (wrap64 ((s.size : Int) + k)) 6).toNat
def fitLeaf (k : Int) (s : ByteArray) (x : V) : Tm := if k = 0 then .mk 1 (varOf s) nV [] else .mk 2 ⟨#[]⟩ (fitVal x) []
def fitArity (i : Nat) : Nat := (fnArity (fitFnN i)).toNat
def fitTm : Nat → Tm → Tm
 | 0, .mk k s x _ => fitLeaf (pickZ k 4 % 2) s x
 | d + 1, .mk k s x l =>
  if d = 0 ∨ l.length < 2 then fitLeaf (pickZ k 4 % 2) s x
  else if pickZ k 4 = 0 then fitLeaf 0 s x
  else if pickZ k 4 = 1 then fitLeaf 1 s x
  else if pickZ k 4 = 2 then .mk 3 (fitFn (fitFnAt s k)) nV ((l.take (fitArity (fitFnAt s k))).map (fitTm d))
  else .mk 4 (fitOp (pickZ (s.size : Int) 3).toNat) nV ((l.take 2).map (fitTm d))
theorem fitFnAt_lt (s : ByteArray) (k : Int) : fitFnAt s k < 6 := by
 have := pickZ_bd (wrap64 ((s.size : Int) + k)) 6 (by omega);unfold fitFnAt; omega
theorem fitFn_of : ∀ i, i < 6 → fnOf (fitFn i) = fitFnN i := by
 intro i hi
 match i, hi with
 | 0, _ => simp [fitFn, fitFnN, fname, fnOf, Lib.toList_data]
 | 1, _ => simp [fitFn, fitFnN, fname, fnOf, Lib.toList_data]
 | 2, _ => simp [fitFn, fitFnN, fname, fnOf, Lib.toList_data]
 | 3, _ => simp [fitFn, fitFnN, fname, fnOf, Lib.toList_data]
 | 4, _ => simp [fitFn, fitFnN, fname, fnOf, Lib.toList_data]
 | 5, _ => simp [fitFn, fitFnN, fname, fnOf, Lib.toList_data]
theorem fitArity_is : ∀ i, i < 6 → fnArity (fitFnN i) = (fitArity i : Int) ∧ 1 ≤ fitArity i ∧ fitArity i ≤ 2 := by decide
end Go.Proofs.Ytjmnnjikmmglpaa
namespace Go.Proofs.Ytjmnnjikmmglpaa
open Go.RowKit
theorem pick4_any (c n : Int) (w : World) (hc : I64 c) (hn : 1 ≤ n) (hn2 : n ≤ 9223372036854775807) :
  Calls Try.prog 25 #[.int .i64 c, .int .i64 n] w fun e w' => e = .returned (.int .i64 (pickZ c n)) ∧ w = w' := by
 obtain ⟨h1, h2⟩ := hc
 by_cases h : c < 0
 ·have HF : Hid (pickZ c n = (-(c + 1)) % n) := by show _ = _; rw [pickZ, if_pos h]
  have h3 : 0 ≤ -(c + 1) := by omega
  have hne : (n == 0) = false := beq_eq_false_iff_ne.2 (by omega);go_enter Try.func25, Try.ntmps25
  go_wp2_with fail
  go_ret
  refine ⟨?_, rfl⟩;rw [HF.out];refine ret_int' ?_;rw [← Int.neg_tmod, Int.tmod_eq_emod_of_nonneg h3]
 ·have HF : Hid (pickZ c n = c % n) := by show _ = _; rw [pickZ, if_neg h]
  have h3 : 0 ≤ c := by omega
  have hne : (n == 0) = false := beq_eq_false_iff_ne.2 (by omega);go_enter Try.func25, Try.ntmps25
  go_wp2_with fail
  go_ret
  refine ⟨?_, rfl⟩;rw [HF.out];rfl
end Go.Proofs.Ytjmnnjikmmglpaa
namespace Go.Proofs.Ytjmnnjikmmglpaa
open Go.RowKit
def ArPost (k : Nat) (w : World) (e : Ending) (w' : World) : Prop := e = .returned (.int .i64 (fnArity k)) ∧ w = w'
set_option maxRecDepth 100000 in
set_option maxHeartbeats 2000000 in
theorem refArity_any (s : ByteArray) (w : World) : Calls Try.prog 28 #[.string s] w (ArPost (fnOf s) w) := by
 unfold fnOf
 cases h0 : (s.toList == [102, 95, 99, 111, 110, 115]) with
 | true =>
  rw [if_pos rfl];go_enter Try.func28, Try.ntmps28
  go_wp2_with fail
  go_ret
  exact ⟨rfl, rfl⟩
 | false =>
 rw [if_neg (by decide)]
 cases h1 : (s.toList == [102, 95, 97, 112, 112, 101, 110, 100]) with
 | true =>
  rw [if_pos rfl];go_enter Try.func28, Try.ntmps28
  go_wp2_with fail
  go_ret
  exact ⟨rfl, rfl⟩
 | false =>
 rw [if_neg (by decide)]
 cases h2 : (s.toList == [102, 95, 99, 111, 110, 99, 97, 116]) with
 | true =>
  rw [if_pos rfl];go_enter Try.func28, Try.ntmps28
  go_wp2_with fail
  go_ret
  exact ⟨rfl, rfl⟩
 | false =>
 rw [if_neg (by decide)]
 cases h3 : (s.toList == [102, 95, 109, 101, 109, 98, 101, 114]) with
 | true =>
  rw [if_pos rfl];go_enter Try.func28, Try.ntmps28
  go_wp2_with fail
  go_ret
  exact ⟨rfl, rfl⟩
 | false =>
 rw [if_neg (by decide)]
 cases h4 : (s.toList == [102, 95, 115, 105, 122, 101]) with
 | true =>
  rw [if_pos rfl];go_enter Try.func28, Try.ntmps28
  go_wp2_with fail
  go_ret
  exact ⟨rfl, rfl⟩
 | false =>
 rw [if_neg (by decide)]
 cases h5 : (s.toList == [102, 95, 102, 105, 114, 115, 116]) with
 | true =>
  rw [if_pos rfl];go_enter Try.func28, Try.ntmps28
  go_wp2_with fail
  go_ret
  exact ⟨rfl, rfl⟩
 | false =>
 rw [if_neg (by decide)]
 cases h6 : (s.toList == [102, 95, 108, 97, 115, 116]) with
 | true =>
  rw [if_pos rfl];go_enter Try.func28, Try.ntmps28
  go_wp2_with fail
  go_ret
  exact ⟨rfl, rfl⟩
 | false =>
 rw [if_neg (by decide)]
 cases h7 : (s.toList == [102, 95, 114, 101, 115, 116]) with
 | true =>
  rw [if_pos rfl];go_enter Try.func28, Try.ntmps28
  go_wp2_with fail
  go_ret
  exact ⟨rfl, rfl⟩
 | false =>
 rw [if_neg (by decide)]
 cases h8 : (s.toList == [102, 95, 114, 101, 118, 101, 114, 115, 101]) with
 | true =>
  rw [if_pos rfl];go_enter Try.func28, Try.ntmps28
  go_wp2_with fail
  go_ret
  exact ⟨rfl, rfl⟩
 | false =>
 rw [if_neg (by decide)];go_enter Try.func28, Try.ntmps28
 go_wp2_with fail
 go_ret
 exact ⟨rfl, rfl⟩
end Go.Proofs.Ytjmnnjikmmglpaa
namespace Go.Proofs.Ytjmnnjikmmglpaa
open Go.RowKit
theorem strAdd (a b : ByteArray) (h : a.size + b.size ≤ 140737488355328) : Op.stringOp .add a b = pure (.string (a ++ b)) := by
 simp only [Op.stringOp]
 rw [if_neg (by rw [show IntKind.i64.max = 9223372036854775807 from by decide]; omega)]
theorem ret_ba {a b : ByteArray} (h : a = b) : Ending.returned (.string a) = .returned (.string b) := by rw [h]
end Go.Proofs.Ytjmnnjikmmglpaa
namespace Go.Proofs.Ytjmnnjikmmglpaa
open Go.RowKit
theorem Relation_any (s : ByteArray) (w : World) (hs : s.size ≤ maxLen) : Calls Try.prog 27 #[.string s] w fun e w' => e = .returned (.string (relOf s)) ∧ Below w.heap.size w w' := by
 have HS := Lib.hid hs;clear hs;obtain ⟨n, hn⟩ : ∃ n : ByteArray, ⟨(nameOf s).toArray⟩ = n := ⟨_, rfl⟩;have HN := Lib.hid hn;have HR : Hid (relOf s = if fnB n = true ∨ declB n = true then ⟨#[110]⟩ else n) := by show _ = _; rw [relOf, hn]
 clear hn
 cases h1 : fnB n with
 | true =>
  have h1' := of_decide_eq_true h1;have HF : Hid (relOf s = ⟨#[110]⟩) := by show _ = _; rw [HR.out, if_pos (.inl h1)]
  have hge : decide (fnArity (fnOf n) ≥ 0) = true := decide_eq_true h1';clear h1 h1' HR;go_enter Try.func27, Try.ntmps27
  go_wp2_with fail
  refine (lawName_any s w HS.out).mono ?_;rw [HN.out];rintro e w2 ⟨rfl, hb⟩;have B2 := Lib.hid hb;clear hb;go_wp2_with fail
  refine (refArity_any n _).mono ?_;rintro e w3 ⟨rfl, rfl⟩;go_wp2_with fail
  go_ret
  exact ⟨ret_ba HF.out.symm, B2.out⟩
 | false =>
  have h1' := of_decide_eq_false h1;have hge : decide (fnArity (fnOf n) ≥ 0) = false := decide_eq_false h1'
  cases h2 : declB n with
  | true =>
   have HF : Hid (relOf s = ⟨#[110]⟩) := by show _ = _; rw [HR.out, if_pos (.inr h2)]
   rw [declB] at h2;clear h1 h1' HR;go_enter Try.func27, Try.ntmps27
   go_wp2_with fail
   refine (lawName_any s w HS.out).mono ?_;rw [HN.out];rintro e w2 ⟨rfl, hb⟩;have B2 := Lib.hid hb;clear hb;go_wp2_with fail
   refine (refArity_any n _).mono ?_;rintro e w3 ⟨rfl, rfl⟩;go_wp2_with fail
   go_ret
   exact ⟨ret_ba HF.out.symm, B2.out⟩
  | false =>
   have HF : Hid (relOf s = n) := by show _ = _; rw [HR.out, if_neg (by rw [h1, h2]; simp)]
   rw [declB] at h2;clear h1 h1' HR;go_enter Try.func27, Try.ntmps27
   go_wp2_with fail
   refine (lawName_any s w HS.out).mono ?_;rw [HN.out];rintro e w2 ⟨rfl, hb⟩;have B2 := Lib.hid hb;clear hb;go_wp2_with fail
   refine (refArity_any n _).mono ?_;rintro e w3 ⟨rfl, rfl⟩;go_wp2_with fail
   go_ret
   exact ⟨ret_ba HF.out.symm, B2.out⟩
theorem Variable_any (s : ByteArray) (w : World) (hs : s.size ≤ maxLen) : Calls Try.prog 26 #[.string s] w fun e w' => e = .returned (.string (varOf s)) ∧ Below w.heap.size w w' := by
 have HS := Lib.hid hs;clear hs;have hl := nameOf_length s;obtain ⟨n, hn⟩ : ∃ n : ByteArray, ⟨(nameOf s).toArray⟩ = n := ⟨_, rfl⟩;have hnz : n.size = 1 + min s.size 15 := by rw [← hn, size_mk, hl]
 have HN := Lib.hid hn
 have HF : Hid (varOf s = ⟨#[86]⟩ ++ n.extract 1 n.size) := by
  show _ = _
  rw [varOf]
  apply ByteArray.ext
  rw [ByteArray.data_append]
  apply Array.toList_inj.1
  have e1 : (n.extract 1 n.size).data.toList = n.data.toList.drop 1 := Lib.extract_to_end n 1;rw [Array.toList_append, e1, ← hn];simp
 have hz : (n.extract 1 n.size).size = n.size - 1 := by rw [ByteArray.size_extract]; omega
 have y1 := strAdd ⟨#[86]⟩ (n.extract 1 n.size) (by rw [hz]; show 1 + (n.size - 1) ≤ _; omega);have h1 : (1 : Int) ≤ (n.size : Int) := by omega
 clear hn hl hnz hz;go_enter Try.func26, Try.ntmps26
 go_wp2_with fail
 refine (lawName_any s w HS.out).mono ?_;rw [HN.out];rintro e w2 ⟨rfl, hb⟩;have B2 := Lib.hid hb;clear hb;go_wp2_with fail
 go_ret
 exact ⟨ret_ba HF.out.symm, B2.out⟩
end Go.Proofs.Ytjmnnjikmmglpaa
namespace Go.Proofs.Ytjmnnjikmmglpaa
open Go.RowKit
theorem slg_row {α : Type} {S : Nat → Prop} {w : World} {n bytes : Nat} {R : α → (Nat → Value) → Prop} {l : List α} {b : Nat} {cs : Array Value} {t : TypeId} {fz : Nat × Nat} (hb : w.heap[b]? = some (.cells cs t fz)) (hS : S b) (hsz : cs.size = l.length * n) (hby : l.length * bytes ≤ 140737488355328)
  (hR : ∀ i (h : i < l.length), R l[i] (fun j => cs.getD (i * n + j) undef)) : SlG S w n bytes R l (.slice (some ⟨b, 0, none⟩) l.length l.length) := by
 refine ⟨_, b, 0, l.length, rfl, Nat.le_refl _, hby, fun _ => rfl, fun _ => hS, fun i hi => ⟨_, fun j hj => ?_, hR i hi⟩⟩
 have hlt : i * n + j < cs.size := by
  have : (i + 1) * n ≤ l.length * n := Nat.mul_le_mul_right n hi;rw [Nat.succ_mul] at this; omega
 rw [show 0 + i * n + j = i * n + j by omega];exact cell_of_block' hb _ (by simp [Array.getD, hlt])
theorem slg_nil {α : Type} {S : Nat → Prop} {w : World} {n bytes : Nat} {R : α → (Nat → Value) → Prop} : SlG S w n bytes R [] (.slice none 0 0) :=
 ⟨none, 0, 0, 0, rfl, Nat.le_refl _, by simp, fun h => by omega, fun h => by simp at h, fun i hi => by simp at hi⟩
def zV : V := .mk 0 0 ⟨#[]⟩ []
theorem small64 {n : Int} (h : 0 ≤ n ∧ n ≤ 100) : I64 n := ⟨by omega, by omega⟩
theorem zV_rep (S : Nat → Prop) (w : World) : RepG S w zV (.int .i64 0) (.int .i64 0) (.string ⟨#[]⟩) (.slice none 0 0) := flat_rep S w 0 0 ⟨#[]⟩ (small64 (by omega)) (small64 (by omega)) (by decide)
end Go.Proofs.Ytjmnnjikmmglpaa
