/-
  A row of a call's own whose elements lie in blocks told ahead, or from the row's base on, never in its own.
-/
import Derived.Test.YtkaiihoijcpldaaRowTwo
namespace Go.Proofs.Ytkaiihoijcpldaa
open Go.RowKit

def MineS {α : Type} (K : Kd α) (S : Nat → Prop) (w : World) (B : Nat) (l : List α) (v : Value) : Prop := OwnK K (fun b => (S b ∨ B ≤ b) ∧ b < w.heap.size ∧ v.ownBlock ≠ some b) w B l v
section
variable {α : Type} {K : Kd α} {S : Nat → Prop}
theorem MineS.nil (w : World) (B : Nat) : MineS K S w B [] (.slice none 0 0) := OwnK.nil _ _ _
theorem MineS.on {w w' : World} {B : Nat} {l : List α} {v : Value} (h : MineS K S w B l v) (hb : Below w.heap.size w w') : MineS K S w' B l v :=
  OwnK.on h (fun _k hk => ⟨hk.1, Nat.lt_of_lt_of_le hk.2.1 hb.size, hk.2.2⟩) (fun k hk => hb.block k hk.2.1) (fun k _ hk _ => hb.block k hk)
theorem MineS.lies {w : World} {B : Nat} {l : List α} {v : Value} (h : MineS K S w B l v) (k : Nat) (hk : v.ownBlock = some k) : B ≤ k ∧ k < w.heap.size := OwnK.lies h k hk
theorem MineS.form {w : World} {B : Nat} {l : List α} {v : Value} (h : MineS K S w B l v) : ∃ a cap, v = .slice a l.length cap := OwnK.form h
theorem MineS.append {w : World} {B : Nat} {L : List α} {lv : Value} {y : α} {b : Nat} {cs : Array Value} {t : TypeId} {fz : Nat × Nat} {c : Nat → Value} (h : MineS K S w B L lv) (hB : B ≤ w.heap.size) (hlen : L.length ≤ 1000)
    (hb : w.heap[b]? = some (.cells cs t fz)) (hc : ∀ j, j < K.n → cs[j]? = some (c j)) (hR : K.R (fun b => (S b ∨ B ≤ b) ∧ b < w.heap.size ∧ lv.ownBlock ≠ some b) w y c) (ty : TypeId) :
    ∃ (a : Option Addr) (cap : Nat) (w6 : World), (Builtin.append_ #[K.ST, K.ST] ty #[lv, .slice (some ⟨b, 0, none⟩) 1 1]).run Try.prog w = .ok (.slice a (L.length + 1) cap) w6 ∧ MineS K S w6 B (L ++ [y]) (.slice a (L.length + 1) cap) ∧ w.grownBy w6 lv.ownBlock := by
  obtain ⟨v', w6, hrun, ho, hg, h5⟩ := own_manyH (S1 := fun _ => True) (m := [y]) h (one_row (c := c) hb trivial hc hR) (fun k hk => ⟨hk.2.1, hk.2.2⟩) hB (by simp; omega) ty
  have hm : MineS K S w6 B (L ++ [y]) v' := OwnK.on ho (fun k hk => ⟨hk.1, Nat.lt_of_lt_of_le hk.2.1 hg.size, fun e => by
    rcases h5 with h5 | h5
    · exact hk.2.2 (h5.symm.trans e)
    · rw [h5] at e; have := Option.some.inj e; omega⟩) (fun _ _ => rfl) (fun _ _ _ _ => rfl)
  obtain ⟨a, cap, rfl⟩ := OwnK.form hm
  rw [List.length_append, List.length_singleton] at hrun hm
  exact ⟨a, cap, w6, hrun, hm, hg⟩
theorem MineS.slg {w : World} {B : Nat} {l : List α} {v : Value} (h : MineS K S w B l v) (hl : l.length ≤ 100000) : SlG (fun b => (S b ∨ B ≤ b) ∧ b < w.heap.size) w K.n K.bytes (K.R (fun b => (S b ∨ B ≤ b) ∧ b < w.heap.size) w) l v :=
  OwnK.slg' h (fun _b hb => ⟨hb.1, hb.2.1⟩) (fun _b h1 h2 => ⟨.inr h1, h2⟩) hl
end
end Go.Proofs.Ytkaiihoijcpldaa
