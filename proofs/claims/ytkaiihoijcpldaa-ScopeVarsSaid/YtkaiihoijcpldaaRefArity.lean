/-
  The document's own Arity: of any name.
-/
import Derived.Test.YtkaiihoijcpldaaW11
namespace Go.Proofs.Ytkaiihoijcpldaa
open Go.RowKit

def ArPost (k : Nat) (w : World) (e : Ending) (w' : World) : Prop := e = .returned (.int .i64 (fnArity k)) ∧ w = w'
set_option maxRecDepth 100000 in
set_option maxHeartbeats 2000000 in
theorem refArity_any (s : ByteArray) (w : World) : Calls Try.prog 31 #[.string s] w (ArPost (fnOf s) w) := by
  unfold fnOf
  cases h0 : (s.toList == [102, 95, 99, 111, 110, 115]) with
  | true =>
    rw [if_pos rfl]
    go_enter Try.func31, Try.ntmps31
    go_wp2_with fail
    go_ret
    exact ⟨rfl, rfl⟩
  | false =>
  rw [if_neg (by decide)]
  cases h1 : (s.toList == [102, 95, 97, 112, 112, 101, 110, 100]) with
  | true =>
    rw [if_pos rfl]
    go_enter Try.func31, Try.ntmps31
    go_wp2_with fail
    go_ret
    exact ⟨rfl, rfl⟩
  | false =>
  rw [if_neg (by decide)]
  cases h2 : (s.toList == [102, 95, 99, 111, 110, 99, 97, 116]) with
  | true =>
    rw [if_pos rfl]
    go_enter Try.func31, Try.ntmps31
    go_wp2_with fail
    go_ret
    exact ⟨rfl, rfl⟩
  | false =>
  rw [if_neg (by decide)]
  cases h3 : (s.toList == [102, 95, 109, 101, 109, 98, 101, 114]) with
  | true =>
    rw [if_pos rfl]
    go_enter Try.func31, Try.ntmps31
    go_wp2_with fail
    go_ret
    exact ⟨rfl, rfl⟩
  | false =>
  rw [if_neg (by decide)]
  cases h4 : (s.toList == [102, 95, 115, 105, 122, 101]) with
  | true =>
    rw [if_pos rfl]
    go_enter Try.func31, Try.ntmps31
    go_wp2_with fail
    go_ret
    exact ⟨rfl, rfl⟩
  | false =>
  rw [if_neg (by decide)]
  cases h5 : (s.toList == [102, 95, 102, 105, 114, 115, 116]) with
  | true =>
    rw [if_pos rfl]
    go_enter Try.func31, Try.ntmps31
    go_wp2_with fail
    go_ret
    exact ⟨rfl, rfl⟩
  | false =>
  rw [if_neg (by decide)]
  cases h6 : (s.toList == [102, 95, 108, 97, 115, 116]) with
  | true =>
    rw [if_pos rfl]
    go_enter Try.func31, Try.ntmps31
    go_wp2_with fail
    go_ret
    exact ⟨rfl, rfl⟩
  | false =>
  rw [if_neg (by decide)]
  cases h7 : (s.toList == [102, 95, 114, 101, 115, 116]) with
  | true =>
    rw [if_pos rfl]
    go_enter Try.func31, Try.ntmps31
    go_wp2_with fail
    go_ret
    exact ⟨rfl, rfl⟩
  | false =>
  rw [if_neg (by decide)]
  cases h8 : (s.toList == [102, 95, 114, 101, 118, 101, 114, 115, 101]) with
  | true =>
    rw [if_pos rfl]
    go_enter Try.func31, Try.ntmps31
    go_wp2_with fail
    go_ret
    exact ⟨rfl, rfl⟩
  | false =>
  rw [if_neg (by decide)]
  go_enter Try.func31, Try.ntmps31
  go_wp2_with fail
  go_ret
  exact ⟨rfl, rfl⟩

end Go.Proofs.Ytkaiihoijcpldaa
