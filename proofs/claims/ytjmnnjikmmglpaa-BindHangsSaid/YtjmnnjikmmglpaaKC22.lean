/-
  RefArity, StrAdd, Relation, RowKit
-/
import Derived.Test.YtjmnnjikmmglpaaKC07
import Derived.Test.YtjmnnjikmmglpaaKC01
import Derived.Test.YtjmnnjikmmglpaaKC21
import Derived.Test.YtjmnnjikmmglpaaKC10
import Derived.Lib.IndexBytes
namespace Go.Proofs.Ytjmnnjikmmglpaa
open Go.RowKit
def ArPost (k : Nat) (w : World) (e : Ending) (w' : World) : Prop := e = .returned (.int .i64 (fnArity k)) ∧ w = w'
set_option maxRecDepth 100000 in
set_option maxHeartbeats 2000000 in
theorem refArity_any (s : ByteArray) (w : World) : Calls Try.prog 28 #[.string s] w (ArPost (fnOf s) w) := by
 unfold fnOf
 cases h0 : (s.toList == [102, 95, 99, 111, 110, 115]) with
 | true =>
  rw [if_pos rfl];go_enter Try.func28, Try.ntmps28
  go_wp2_with fail
  go_ret
  exact ⟨rfl, rfl⟩
 | false =>
 rw [if_neg (by decide)]
 cases h1 : (s.toList == [102, 95, 97, 112, 112, 101, 110, 100]) with
 | true =>
  rw [if_pos rfl];go_enter Try.func28, Try.ntmps28
  go_wp2_with fail
  go_ret
  exact ⟨rfl, rfl⟩
 | false =>
 rw [if_neg (by decide)]
 cases h2 : (s.toList == [102, 95, 99, 111, 110, 99, 97, 116]) with
 | true =>
  rw [if_pos rfl];go_enter Try.func28, Try.ntmps28
  go_wp2_with fail
  go_ret
  exact ⟨rfl, rfl⟩
 | false =>
 rw [if_neg (by decide)]
 cases h3 : (s.toList == [102, 95, 109, 101, 109, 98, 101, 114]) with
 | true =>
  rw [if_pos rfl];go_enter Try.func28, Try.ntmps28
  go_wp2_with fail
  go_ret
  exact ⟨rfl, rfl⟩
 | false =>
 rw [if_neg (by decide)]
 cases h4 : (s.toList == [102, 95, 115, 105, 122, 101]) with
 | true =>
  rw [if_pos rfl];go_enter Try.func28, Try.ntmps28
  go_wp2_with fail
  go_ret
  exact ⟨rfl, rfl⟩
 | false =>
 rw [if_neg (by decide)]
 cases h5 : (s.toList == [102, 95, 102, 105, 114, 115, 116]) with
 | true =>
  rw [if_pos rfl];go_enter Try.func28, Try.ntmps28
  go_wp2_with fail
  go_ret
  exact ⟨rfl, rfl⟩
 | false =>
 rw [if_neg (by decide)]
 cases h6 : (s.toList == [102, 95, 108, 97, 115, 116]) with
 | true =>
  rw [if_pos rfl];go_enter Try.func28, Try.ntmps28
  go_wp2_with fail
  go_ret
  exact ⟨rfl, rfl⟩
 | false =>
 rw [if_neg (by decide)]
 cases h7 : (s.toList == [102, 95, 114, 101, 115, 116]) with
 | true =>
  rw [if_pos rfl];go_enter Try.func28, Try.ntmps28
  go_wp2_with fail
  go_ret
  exact ⟨rfl, rfl⟩
 | false =>
 rw [if_neg (by decide)]
 cases h8 : (s.toList == [102, 95, 114, 101, 118, 101, 114, 115, 101]) with
 | true =>
  rw [if_pos rfl];go_enter Try.func28, Try.ntmps28
  go_wp2_with fail
  go_ret
  exact ⟨rfl, rfl⟩
 | false =>
 rw [if_neg (by decide)];go_enter Try.func28, Try.ntmps28
 go_wp2_with fail
 go_ret
 exact ⟨rfl, rfl⟩
end Go.Proofs.Ytjmnnjikmmglpaa
namespace Go.Proofs.Ytjmnnjikmmglpaa
open Go.RowKit
theorem strAdd (a b : ByteArray) (h : a.size + b.size ≤ 140737488355328) : Op.stringOp .add a b = pure (.string (a ++ b)) := by
 simp only [Op.stringOp]
 rw [if_neg (by rw [show IntKind.i64.max = 9223372036854775807 from by decide]; omega)]
theorem ret_ba {a b : ByteArray} (h : a = b) : Ending.returned (.string a) = .returned (.string b) := by rw [h]
end Go.Proofs.Ytjmnnjikmmglpaa
namespace Go.Proofs.Ytjmnnjikmmglpaa
open Go.RowKit
theorem Relation_any (s : ByteArray) (w : World) (hs : s.size ≤ maxLen) : Calls Try.prog 27 #[.string s] w fun e w' => e = .returned (.string (relOf s)) ∧ Below w.heap.size w w' := by
 have HS := Lib.hid hs;clear hs;obtain ⟨n, hn⟩ : ∃ n : ByteArray, ⟨(nameOf s).toArray⟩ = n := ⟨_, rfl⟩;have HN := Lib.hid hn;have HR : Hid (relOf s = if fnB n = true ∨ declB n = true then ⟨#[110]⟩ else n) := by show _ = _; rw [relOf, hn]
 clear hn
 cases h1 : fnB n with
 | true =>
  have h1' := of_decide_eq_true h1;have HF : Hid (relOf s = ⟨#[110]⟩) := by show _ = _; rw [HR.out, if_pos (.inl h1)]
  have hge : decide (fnArity (fnOf n) ≥ 0) = true := decide_eq_true h1';clear h1 h1' HR;go_enter Try.func27, Try.ntmps27
  go_wp2_with fail
  refine (lawName_any s w HS.out).mono ?_;rw [HN.out];rintro e w2 ⟨rfl, hb⟩;have B2 := Lib.hid hb;clear hb;go_wp2_with fail
  refine (refArity_any n _).mono ?_;rintro e w3 ⟨rfl, rfl⟩;go_wp2_with fail
  go_ret
  exact ⟨ret_ba HF.out.symm, B2.out⟩
 | false =>
  have h1' := of_decide_eq_false h1;have hge : decide (fnArity (fnOf n) ≥ 0) = false := decide_eq_false h1'
  cases h2 : declB n with
  | true =>
   have HF : Hid (relOf s = ⟨#[110]⟩) := by show _ = _; rw [HR.out, if_pos (.inr h2)]
   rw [declB] at h2;clear h1 h1' HR;go_enter Try.func27, Try.ntmps27
   go_wp2_with fail
   refine (lawName_any s w HS.out).mono ?_;rw [HN.out];rintro e w2 ⟨rfl, hb⟩;have B2 := Lib.hid hb;clear hb;go_wp2_with fail
   refine (refArity_any n _).mono ?_;rintro e w3 ⟨rfl, rfl⟩;go_wp2_with fail
   go_ret
   exact ⟨ret_ba HF.out.symm, B2.out⟩
  | false =>
   have HF : Hid (relOf s = n) := by show _ = _; rw [HR.out, if_neg (by rw [h1, h2]; simp)]
   rw [declB] at h2;clear h1 h1' HR;go_enter Try.func27, Try.ntmps27
   go_wp2_with fail
   refine (lawName_any s w HS.out).mono ?_;rw [HN.out];rintro e w2 ⟨rfl, hb⟩;have B2 := Lib.hid hb;clear hb;go_wp2_with fail
   refine (refArity_any n _).mono ?_;rintro e w3 ⟨rfl, rfl⟩;go_wp2_with fail
   go_ret
   exact ⟨ret_ba HF.out.symm, B2.out⟩
theorem Variable_any (s : ByteArray) (w : World) (hs : s.size ≤ maxLen) : Calls Try.prog 26 #[.string s] w fun e w' => e = .returned (.string (varOf s)) ∧ Below w.heap.size w w' := by
 have HS := Lib.hid hs;clear hs;have hl := nameOf_length s;obtain ⟨n, hn⟩ : ∃ n : ByteArray, ⟨(nameOf s).toArray⟩ = n := ⟨_, rfl⟩;have hnz : n.size = 1 + min s.size 15 := by rw [← hn, size_mk, hl]
 have HN := Lib.hid hn
 have HF : Hid (varOf s = ⟨#[86]⟩ ++ n.extract 1 n.size) := by
  show _ = _
  rw [varOf]
  apply ByteArray.ext
  rw [ByteArray.data_append]
  apply Array.toList_inj.1
  have e1 : (n.extract 1 n.size).data.toList = n.data.toList.drop 1 := Lib.extract_to_end n 1;rw [Array.toList_append, e1, ← hn];simp
 have hz : (n.extract 1 n.size).size = n.size - 1 := by rw [ByteArray.size_extract]; omega
 have y1 := strAdd ⟨#[86]⟩ (n.extract 1 n.size) (by rw [hz]; show 1 + (n.size - 1) ≤ _; omega);have h1 : (1 : Int) ≤ (n.size : Int) := by omega
 clear hn hl hnz hz;go_enter Try.func26, Try.ntmps26
 go_wp2_with fail
 refine (lawName_any s w HS.out).mono ?_;rw [HN.out];rintro e w2 ⟨rfl, hb⟩;have B2 := Lib.hid hb;clear hb;go_wp2_with fail
 go_ret
 exact ⟨ret_ba HF.out.symm, B2.out⟩
end Go.Proofs.Ytjmnnjikmmglpaa
namespace Go.Proofs.Ytjmnnjikmmglpaa
open Go.RowKit
theorem slg_row {α : Type} {S : Nat → Prop} {w : World} {n bytes : Nat} {R : α → (Nat → Value) → Prop} {l : List α} {b : Nat} {cs : Array Value} {t : TypeId} {fz : Nat × Nat} (hb : w.heap[b]? = some (.cells cs t fz)) (hS : S b) (hsz : cs.size = l.length * n) (hby : l.length * bytes ≤ 140737488355328)
  (hR : ∀ i (h : i < l.length), R l[i] (fun j => cs.getD (i * n + j) undef)) : SlG S w n bytes R l (.slice (some ⟨b, 0, none⟩) l.length l.length) := by
 refine ⟨_, b, 0, l.length, rfl, Nat.le_refl _, hby, fun _ => rfl, fun _ => hS, fun i hi => ⟨_, fun j hj => ?_, hR i hi⟩⟩
 have hlt : i * n + j < cs.size := by
  have : (i + 1) * n ≤ l.length * n := Nat.mul_le_mul_right n hi;rw [Nat.succ_mul] at this; omega
 rw [show 0 + i * n + j = i * n + j by omega];exact cell_of_block' hb _ (by simp [Array.getD, hlt])
theorem slg_nil {α : Type} {S : Nat → Prop} {w : World} {n bytes : Nat} {R : α → (Nat → Value) → Prop} : SlG S w n bytes R [] (.slice none 0 0) :=
 ⟨none, 0, 0, 0, rfl, Nat.le_refl _, by simp, fun h => by omega, fun h => by simp at h, fun i hi => by simp at hi⟩
def zV : V := .mk 0 0 ⟨#[]⟩ []
theorem small64 {n : Int} (h : 0 ≤ n ∧ n ≤ 100) : I64 n := ⟨by omega, by omega⟩
theorem zV_rep (S : Nat → Prop) (w : World) : RepG S w zV (.int .i64 0) (.int .i64 0) (.string ⟨#[]⟩) (.slice none 0 0) := flat_rep S w 0 0 ⟨#[]⟩ (small64 (by omega)) (small64 (by omega)) (by decide)
end Go.Proofs.Ytjmnnjikmmglpaa
