/-
  builtin.Op and builtin.Test of any values.
-/
import Derived.Test.YtgkgnfafjbjbnaaDoorCall
namespace Go.Proofs.YtgkgnfafjbjbnaaDoor
open Go.RowKit

def numB (x : V) : Bool := (x.kind == 1) && rightV 4 x
theorem num_bounds {x : V} (h : numB x = true) : -2147483647 ≤ x.num ∧ x.num ≤ 2147483647 := by
  rw [numB, Bool.and_eq_true, beq_iff_eq] at h
  cases x with
  | mk k n s l =>
    obtain ⟨h1, h2⟩ := h
    rw [rightV_mk] at h2
    obtain rfl : k = 1 := h1
    rcases baseB_cases h2 with ⟨_, _, _, h3, h4⟩ | ⟨e, _⟩ | ⟨e, _⟩ | ⟨e, _⟩
    · exact ⟨h3, h4⟩
    all_goals exact absurd e (by decide)

set_option maxRecDepth 100000 in
set_option maxHeartbeats 1000000 in
theorem isNumber_any (x : V) (B : Nat) (w : World) (c0 c1 c2 c3 : Value) (hB : B ≤ w.heap.size) (hx : RepV B w x c0 c1 c2 c3) :
    Calls Tryd.prog 57 #[.agg #[c0, c1, c2, c3]] w fun e w' => e = .returned (.bool (numB x)) ∧ Below w.heap.size w w' := by
  have HX := Lib.hid hx
  obtain ⟨fa, fc, rfl, rfl, rfl, rfl⟩ := hx.form
  clear hx
  have b1 := (Below.refl _ w).alloc (Nat.le_refl _) (.cells #[.int .i64 x.kind, .int .i64 x.num, .string x.text, .slice fa x.list.length fc] 24)
  have HB1 := Lib.hid b1
  cases hk : (x.kind == 1) with
  | false =>
    have HK : Hid (numB x = false) := by show _ = _; rw [numB, hk]; rfl
    have hk2 : ¬ x.kind = 1 := by simpa using hk
    clear b1
    go_enter Tryd.func57, Tryd.ntmps57
    go_wp2_with fail
    go_ret
    exact ⟨retBool HK.out.symm, HB1.out⟩
  | true =>
    have HK : Hid (numB x = rightV 4 x) := by show _ = _; rw [numB, hk]; rfl
    have hk1 : x.kind = 1 := by simpa using hk
    have HK1 := Lib.hid hk1
    clear hk b1
    rw [hk1] at HX HB1 ⊢
    clear hk1
    go_enter Tryd.func57, Tryd.ntmps57
    go_wp2_with fail
    refine (right_any x B _ _ _ _ _ (by simp; omega) (RepV.below (fun j hj => HB1.out.block j (by omega)) x HX.out)).mono ?_
    rintro e w2 ⟨rfl, hb2⟩
    go_wp2_with fail
    go_ret
    exact ⟨retBool HK.out.symm, Below.step HB1.out hb2⟩

def reckonZ (s : ByteArray) (n m : Int) : Option Int :=
  if (s.toList == [43]) = true then some (n + m) else if (s.toList == [45]) = true then some (n - m) else if (s.toList == [42]) = true then some (n * m) else none
theorem mul_bound {n m : Int} (hn : -2147483647 ≤ n ∧ n ≤ 2147483647) (hm : -2147483647 ≤ m ∧ m ≤ 2147483647) : -4611686014132420609 ≤ n * m ∧ n * m ≤ 4611686014132420609 := by
  have h1 : (n * m).natAbs ≤ 2147483647 * 2147483647 := by
    rw [Int.natAbs_mul]
    exact Nat.mul_le_mul (by omega) (by omega)
  omega
def ReckonPost (r : Option Int) (w : World) (e : Ending) (w' : World) : Prop := e = .returned (.tuple #[.int .i64 (r.getD 0), .bool r.isSome]) ∧ w = w'
set_option maxRecDepth 100000 in
set_option maxHeartbeats 1000000 in
theorem reckon_any (s : ByteArray) (n m : Int) (w : World) (hn : -2147483647 ≤ n ∧ n ≤ 2147483647) (hm : -2147483647 ≤ m ∧ m ≤ 2147483647) :
    Calls Tryd.prog 58 #[.string s, .int .i64 n, .int .i64 m] w (ReckonPost (reckonZ s n m) w) := by
  have hp := mul_bound hn hm
  obtain ⟨hn1, hn2⟩ := hn
  obtain ⟨hm1, hm2⟩ := hm
  obtain ⟨hp1, hp2⟩ := hp
  unfold reckonZ
  cases h0 : (s.toList == [43]) with
  | true =>
    rw [if_pos rfl]
    go_enter Tryd.func58, Tryd.ntmps58
    go_wp2_with fail
    go_ret2
    exact ⟨rfl, rfl⟩
  | false =>
  rw [if_neg (by decide)]
  cases h1 : (s.toList == [45]) with
  | true =>
    rw [if_pos rfl]
    go_enter Tryd.func58, Tryd.ntmps58
    go_wp2_with fail
    go_ret2
    exact ⟨rfl, rfl⟩
  | false =>
  rw [if_neg (by decide)]
  cases h2 : (s.toList == [42]) with
  | true =>
    rw [if_pos rfl]
    have HM : Hid (IntKind.i64.wrap (n * m) = n * m) := by show _ = _; rw [IntKind.wrap_i64]; omega
    go_enter Tryd.func58, Tryd.ntmps58
    go_wp2_with fail
    go_ret2
    first
      | exact ⟨rfl, rfl⟩
      | exact ⟨by show Ending.returned (.tuple #[.int .i64 (IntKind.i64.wrap (n * m)), .bool true]) = _; rw [HM.out]; rfl, rfl⟩
  | false =>
    rw [if_neg (by decide)]
    go_enter Tryd.func58, Tryd.ntmps58
    go_wp2_with fail
    go_ret2
    exact ⟨rfl, rfl⟩

end Go.Proofs.YtgkgnfafjbjbnaaDoor
