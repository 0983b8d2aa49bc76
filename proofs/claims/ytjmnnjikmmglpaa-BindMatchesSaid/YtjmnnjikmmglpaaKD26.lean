/-
  TwoR
-/
import Derived.Test.YtjmnnjikmmglpaaKD15
import Derived.Test.YtjmnnjikmmglpaaKD18
namespace Go.Proofs.Ytjmnnjikmmglpaa
open Go.RowKit
section
variable {α β : Type} {K1 : Kd α} {K2 : Kd β}
def TwoS (w : World) (base : Nat) (v1 v2 : Value) (b : Nat) : Prop := base ≤ b ∧ b < w.heap.size ∧ v1.ownBlock ≠ some b ∧ v2.ownBlock ≠ some b
def TwoR (K1 : Kd α) (K2 : Kd β) (w : World) (base : Nat) (L1 : List α) (v1 : Value) (L2 : List β) (v2 : Value) : Prop :=
 OwnK K1 (TwoS w base v1 v2) w base L1 v1 ∧ OwnK K2 (TwoS w base v1 v2) w base L2 v2 ∧ ∀ k, v1.ownBlock = some k → v2.ownBlock ≠ some k
theorem TwoR.nil (w : World) (base : Nat) : TwoR K1 K2 w base [] (.slice none 0 0) [] (.slice none 0 0) := ⟨OwnK.nil _ _ _, OwnK.nil _ _ _, fun k h => by simp [Value.ownBlock] at h⟩
theorem TwoR.swap {w : World} {base : Nat} {L1 : List α} {v1 : Value} {L2 : List β} {v2 : Value} (h : TwoR K1 K2 w base L1 v1 L2 v2) : TwoR K2 K1 w base L2 v2 L1 v1 :=
 ⟨OwnK.on h.2.1 (fun _ hk => ⟨hk.1, hk.2.1, hk.2.2.2, hk.2.2.1⟩) (fun _ _ => rfl) (fun _ _ _ _ => rfl), OwnK.on h.1 (fun _ hk => ⟨hk.1, hk.2.1, hk.2.2.2, hk.2.2.1⟩) (fun _ _ => rfl) (fun _ _ _ _ => rfl), fun k h2 h1 => h.2.2 k h1 h2⟩
theorem TwoR.on {w w' : World} {base : Nat} {L1 : List α} {v1 : Value} {L2 : List β} {v2 : Value} (h : TwoR K1 K2 w base L1 v1 L2 v2) (hb : Below w.heap.size w w') : TwoR K1 K2 w' base L1 v1 L2 v2 :=
  ⟨OwnK.on h.1 (fun _ hk => ⟨hk.1, Nat.lt_of_lt_of_le hk.2.1 hb.size, hk.2.2⟩) (fun k hk => hb.block k hk.2.1) (fun k _ hk _ => hb.block k hk),
   OwnK.on h.2.1 (fun _ hk => ⟨hk.1, Nat.lt_of_lt_of_le hk.2.1 hb.size, hk.2.2⟩) (fun k hk => hb.block k hk.2.1) (fun k _ hk _ => hb.block k hk), h.2.2⟩
theorem TwoR.lies {w : World} {base : Nat} {L1 : List α} {v1 : Value} {L2 : List β} {v2 : Value} (h : TwoR K1 K2 w base L1 v1 L2 v2) : (∀ k, v1.ownBlock = some k → base ≤ k ∧ k < w.heap.size) ∧ (∀ k, v2.ownBlock = some k → base ≤ k ∧ k < w.heap.size) :=
 ⟨fun k hk => OwnK.lies h.1 k hk, fun k hk => OwnK.lies h.2.1 k hk⟩
theorem TwoR.left {w : World} {base b : Nat} {L1 : List α} {v1 : Value} {L2 : List β} {v2 : Value} {y : α} {cs : Array Value} {t : TypeId} {fz : Nat × Nat} {c : Nat → Value} (h : TwoR K1 K2 w base L1 v1 L2 v2) (hB : base ≤ w.heap.size) (hlen : L1.length ≤ 1000)
  (hb : w.heap[b]? = some (.cells cs t fz)) (hc : ∀ j, j < K1.n → cs[j]? = some (c j)) (hR : K1.R (TwoS w base v1 v2) w y c) (ty : TypeId) :
  ∃ (a : Option Addr) (cap : Nat) (w6 : World), (Builtin.append_ #[K1.ST, K1.ST] ty #[v1, .slice (some ⟨b, 0, none⟩) 1 1]).run Try.prog w = .ok (.slice a (L1.length + 1) cap) w6 ∧ TwoR K1 K2 w6 base (L1 ++ [y]) (.slice a (L1.length + 1) cap) L2 v2 ∧ Below base w w6 ∧ w.heap.size ≤ w6.heap.size ∧ (∀ k, k < w.heap.size → v1.ownBlock ≠ some k → w6.heap[k]? = w.heap[k]?) ∧ ((Value.slice a (L1.length + 1) cap).ownBlock = v1.ownBlock ∨ (Value.slice a (L1.length + 1) cap).ownBlock = some w.heap.size) := by
 have hl := h.lies;obtain ⟨v', w6, hrun, ho, hg, h5⟩ := own_manyH (S1 := fun _ => True) (m := [y]) h.1 (one_row (S := TwoS w base v1 v2) (c := c) hb trivial hc hR) (fun k hk => ⟨hk.2.1, hk.2.2.1⟩) hB (by simp; omega) ty;obtain ⟨a, cap, rfl⟩ := OwnK.form ho
 have hsub : ∀ k, TwoS w base v1 v2 k → TwoS w6 base (.slice a (L1 ++ [y]).length cap) v2 k := fun k hk => ⟨hk.1, Nat.lt_of_lt_of_le hk.2.1 hg.size, fun e => by
  rcases h5 with h5 | h5
  ·exact hk.2.2.1 (h5.symm.trans e)
  ·rw [h5] at e; have := Option.some.inj e; have := hk.2.1; omega, hk.2.2.2⟩
 have ho1 := OwnK.on ho hsub (fun _ _ => rfl) (fun _ _ _ _ => rfl);have ho2 : OwnK K2 (TwoS w6 base (.slice a (L1 ++ [y]).length cap) v2) w6 base L2 v2 := OwnK.on h.2.1 hsub (fun k hk => hg.block k hk.2.1 (fun e => hk.2.2.1 e.symm)) (fun k _ h2 h3 => hg.block k h2 (fun e => h.2.2 k e.symm h3))
 have ho3 : ∀ k, (Value.slice a (L1 ++ [y]).length cap).ownBlock = some k → v2.ownBlock ≠ some k := fun k hk h3 => by
  rcases h5 with h5 | h5
  ·exact h.2.2 k (h5.symm.trans hk) h3
  ·rw [h5] at hk; have := (hl.2 k h3).2; have := Option.some.inj hk; omega
 rw [List.length_append, List.length_singleton] at hrun ho1 ho2 ho3 h5;exact ⟨a, cap, w6, hrun, ⟨ho1, ho2, ho3⟩, ⟨hg.os, hg.tape, hg.output, hg.size, fun k hk => hg.block k (by omega) (fun e => by have := (hl.1 k e.symm).1; omega)⟩, hg.size, fun k hk hne => hg.block k hk (fun e => hne e.symm), h5⟩
theorem TwoR.form {w : World} {base : Nat} {L1 : List α} {v1 : Value} {L2 : List β} {v2 : Value} (h : TwoR K1 K2 w base L1 v1 L2 v2) : (∃ a c, v1 = .slice a L1.length c) ∧ ∃ a c, v2 = .slice a L2.length c := ⟨OwnK.form h.1, OwnK.form h.2.1⟩
theorem TwoR.slg {w : World} {base : Nat} {L1 : List α} {v1 : Value} {L2 : List β} {v2 : Value} (h : TwoR K1 K2 w base L1 v1 L2 v2) (hl : L1.length ≤ 100000) : SlG (fun b => b < w.heap.size) w K1.n K1.bytes (K1.R (fun b => b < w.heap.size) w) L1 v1 :=
 OwnK.slg' h.1 (fun _ hk => hk.2.1) (fun _ _ h2 => h2) hl
end
end Go.Proofs.Ytjmnnjikmmglpaa
