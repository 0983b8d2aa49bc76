/-
  RowTyped, StrAdd, Open, LawPost, OpenFour, LocTurned, SixProgram
-/
import Derived.Test.YtjohcnhiblfbnaaGreatDoorQ09
import Derived.Test.YtjohcnhiblfbnaaGreatDoorQ03
import Derived.Test.YtjohcnhiblfbnaaGreatDoorQ01
import Derived.Test.YtjohcnhiblfbnaaGreatDoorRows
import Derived.Test.YtjohcnhiblfbnaaGreatDoorQ28
import Derived.Test.YtjohcnhiblfbnaaGreatDoorQ05
import Derived.Test.YtjohcnhiblfbnaaGreatDoorQ27
import Derived.ProofKit
import Derived.Lib.SmallJoins
import Derived.Deep.Slices
import Derived.OpenShut
import Derived.Deep.DeepHandedRow
import Derived.Deep.Strs
namespace Go.Proofs.YtjohcnhiblfbnaaGreatDoor
open Go.RowKit
def TyB (T : TypeId) (w : World) (b : Nat) : Prop := ∃ cs fz, w.heap[b]? = some (.cells cs T fz)
theorem TyB.at {T : TypeId} {w w' : World} {b : Nat} (h : TyB T w b) (e : w'.heap[b]? = w.heap[b]?) : TyB T w' b := by
 obtain ⟨cs, fz, h⟩ := h
 exact ⟨cs, fz, e.trans h⟩
def MineT {α : Type} (K : Kd α) (S : Nat → Prop) (w : World) (B : Nat) (l : List α) (v : Value) : Prop := OwnK K (fun b => (S b ∨ (B ≤ b ∧ TyB K.T w b)) ∧ b < w.heap.size ∧ v.ownBlock ≠ some b) w B l v
section
variable {α : Type} {K : Kd α} {S : Nat → Prop}
theorem MineT.nil (w : World) (B : Nat) : MineT K S w B [] (.slice none 0 0) := OwnK.nil _ _ _
theorem MineT.on {w w' : World} {B : Nat} {l : List α} {v : Value} (h : MineT K S w B l v) (hb : Below w.heap.size w w') : MineT K S w' B l v :=
 OwnK.on h (fun k hk => ⟨hk.1.imp (fun h => h) (fun h => ⟨h.1, h.2.at (hb.block k hk.2.1)⟩), Nat.lt_of_lt_of_le hk.2.1 hb.size, hk.2.2⟩) (fun k hk => hb.block k hk.2.1) (fun k _ hk _ => hb.block k hk)
theorem MineT.lies {w : World} {B : Nat} {l : List α} {v : Value} (h : MineT K S w B l v) (k : Nat) (hk : v.ownBlock = some k) : B ≤ k ∧ k < w.heap.size := OwnK.lies h k hk
theorem MineT.append {w : World} {B : Nat} {L : List α} {lv : Value} {y : α} {b : Nat} {cs : Array Value} {t : TypeId} {fz : Nat × Nat} {c : Nat → Value} (h : MineT K S w B L lv) (hB : B ≤ w.heap.size) (hlen : L.length ≤ 1000)
  (hb : w.heap[b]? = some (.cells cs t fz)) (hc : ∀ j, j < K.n → cs[j]? = some (c j)) (hR : K.R (fun b => (S b ∨ (B ≤ b ∧ TyB K.T w b)) ∧ b < w.heap.size ∧ lv.ownBlock ≠ some b) w y c) (ty : TypeId) :
  ∃ (a : Option Addr) (cap : Nat) (w6 : World), (Builtin.append_ #[K.ST, K.ST] ty #[lv, .slice (some ⟨b, 0, none⟩) 1 1]).run Tryz.prog w = .ok (.slice a (L.length + 1) cap) w6 ∧ MineT K S w6 B (L ++ [y]) (.slice a (L.length + 1) cap) ∧ w.grownBy w6 lv.ownBlock := by
 obtain ⟨v', w6, hrun, ho, hg, h5⟩ := own_manyH (S1 := fun _ => True) (m := [y]) h (one_row (c := c) hb trivial hc hR) (fun k hk => ⟨hk.2.1, hk.2.2⟩) hB (by simp; omega) ty
 have hm : MineT K S w6 B (L ++ [y]) v' := OwnK.on ho (fun k hk => ⟨hk.1.imp (fun h => h) (fun h => ⟨h.1, h.2.at (hg.block k hk.2.1 (fun e => hk.2.2 e.symm))⟩), Nat.lt_of_lt_of_le hk.2.1 hg.size, fun e => by
  rcases h5 with h5 | h5
  ·exact hk.2.2 (h5.symm.trans e)
  ·rw [h5] at e; have := Option.some.inj e; omega⟩) (fun _ _ => rfl) (fun _ _ _ _ => rfl)
 obtain ⟨a, cap, rfl⟩ := OwnK.form hm
 rw [List.length_append, List.length_singleton] at hrun hm
 exact ⟨a, cap, w6, hrun, hm, hg⟩
theorem OwnK.slgT {S S' : Nat → Prop} {w : World} {base : Nat} {l : List α} {v : Value} (h : OwnK K S w base l v) (hSS : ∀ k, S k → S' k) (hS : ∀ k, base ≤ k → k < w.heap.size → TyB K.T w k → S' k) (hl : l.length ≤ 100000) : SlG S' w K.n K.bytes (K.R S' w) l v := by
 obtain ⟨a, b, o, cap, e, h6, h7, h8, h9, h10⟩ := OwnK.slg' (S' := fun k => S' k ∨ (base ≤ k ∧ k < w.heap.size)) h (fun k hk => .inl (hSS k hk)) (fun k h1 h2 => .inr ⟨h1, h2⟩) hl
 have h0 := h
 obtain ⟨xs, ⟨hlen, hown⟩, hr⟩ := h
 rcases hown with ⟨rfl, hn⟩ | ⟨g, cp, cur, rfl, hbg, hh, hnc, hcm, hcs, htk⟩
 ·obtain rfl : l = [] := List.length_eq_zero_iff.1 hn
  exact ⟨none, 0, 0, 0, rfl, Nat.le_refl _, by simp, fun h => by omega, fun h => by simp at h, fun i hi => by simp at hi⟩
 ·have hgl := (Array.getElem?_eq_some_iff.1 hh).1
  refine ⟨_, g, 0, cp, rfl, hnc, h7, fun _ => rfl, fun _ => hS g hbg hgl ⟨cur, _, hh⟩, fun i hi => ?_⟩
  obtain ⟨c, hc, hR⟩ := hr i hi
  refine ⟨c, fun j hj => ?_, K.on hSS (fun _ _ => rfl) hR⟩
  have h1 := hc j hj
  rw [← htk, List.getElem?_take] at h1
  have hlt : i * K.n + j < l.length * K.n := by
   have : (i + 1) * K.n ≤ l.length * K.n := Nat.mul_le_mul_right _ hi
   rw [Nat.succ_mul] at this; omega
  rw [if_pos hlt] at h1
  rw [show 0 + i * K.n + j = i * K.n + j by omega]
  exact cell_of_block' hh _ (by rw [← Array.getElem?_toList]; exact h1)
theorem MineT.slg {w : World} {B : Nat} {l : List α} {v : Value} (h : MineT K S w B l v) (hl : l.length ≤ 100000) : SlG (fun b => S b ∨ (B ≤ b ∧ b < w.heap.size ∧ TyB K.T w b)) w K.n K.bytes (K.R (fun b => S b ∨ (B ≤ b ∧ b < w.heap.size ∧ TyB K.T w b)) w) l v :=
 OwnK.slgT h (fun _b hb => hb.1.imp (fun h => h) (fun h => ⟨h.1, hb.2.1, h.2⟩)) (fun _b h1 h2 h3 => .inr ⟨h1, h2, h3⟩) hl
end
end Go.Proofs.YtjohcnhiblfbnaaGreatDoor
namespace Go.Proofs.YtjohcnhiblfbnaaGreatDoor
open Go.RowKit
theorem strAdd (a b : ByteArray) (h : a.size + b.size ≤ 140737488355328) : Op.stringOp .add a b = pure (.string (a ++ b)) := by
 simp only [Op.stringOp]
 rw [if_neg (by rw [show IntKind.i64.max = 9223372036854775807 from by decide]; omega)]
end Go.Proofs.YtjohcnhiblfbnaaGreatDoor
namespace Go.Proofs.YtjohcnhiblfbnaaGreatDoor
open Go.ChangeShapes Go.WideShapes Go.ChangeAt Go.RowKit Go.Deep Go.Joins
theorem cellsInt : Tryz.prog.cellsOf 3 = 1 := by kernel_rfl
theorem i64_wf {n : Int} (h : (Lit.int .i64 n).wf = true) : I64 n := bounds_i64 h
section
variable {H : Type} {enc : TypeId × Value → H} {W : World}
theorem weightsAll_mem {P : Program} {e : TypeId} {ds : List (DataW H)} {d : DataW H} (h : d ∈ ds) (n : Nat) (hn : n ∈ d.weights P e) : n ∈ DataW.weightsAll P e ds := by
 induction ds with
 | nil => cases h
 | cons x r ih =>
  rw [DataW.weightsAll, List.mem_append]
  rcases List.mem_cons.1 h with rfl | h
  ·exact Or.inl hn
  ·exact Or.inr (ih h)
def Fits (P : Program) (t : TypeId) (d : DataW H) : Prop := ∀ n ∈ d.weights P t, n ≤ reachBytes
theorem cell_lt {w : World} {a : Addr} {v : Value} (h : w.cell? a = some v) : a.block < w.heap.size := by
 by_cases hlt : a.block < w.heap.size
 ·exact hlt
 ·have hn : w.heap[a.block]? = none := by simp; omega
  simp [World.cell?, hn] at h
theorem sizeOf_mem {D : Nat → DataW H} {len i : Nat} (h : i < len) {sp : List (DataW H)} : SizeOf.sizeOf (D i) < SizeOf.sizeOf (DataW.slice ((List.range len).map D) sp) := by
 have := List.sizeOf_lt_of_mem (List.mem_map_of_mem (f := D) (List.mem_range.2 h))
 simp only [DataW.slice.sizeOf_spec]
 omega
set_option maxRecDepth 100000 in
end
end Go.Proofs.YtjohcnhiblfbnaaGreatDoor
namespace Go.Proofs.YtjohcnhiblfbnaaGreatDoor
open Go.ChangeShapes Go.WideShapes Go.ChangeAt Go.RowKit
theorem own : ownKnob Tryz.prog.godebug = none := by kernel_rfl
theorem laidOut : laidOutB Tryz.prog = true := by kernel_rfl
section
variable {H : Type} {enc : TypeId × Value → H}
theorem trodAll_below {W W' : World} (hb : Below W.heap.size W W') : ∀ (ts : List TypeId) (vs : List Value) (ds : List (DataW H)) (ps : List MemPlace), DataW.TrodAll enc Tryz.prog W 0 (fun _ => true) true ts vs ds ps →
  (∀ t ∈ ts, Tryz.prog.readableRec t = true ∧ t < Tryz.prog.types.size) → (∀ x ∈ ps, x.block < W.heap.size) → DataW.TrodAll enc Tryz.prog W' 0 (fun b => decide (b < W.heap.size)) true ts vs ds ps
 | [], [], [], ps, h, _, _ => h
 | t :: ts, v :: vs, d :: ds, ps, h, ht, hp => by
  obtain ⟨p, q, h1, h2, rfl⟩ := h
  obtain ⟨r1, r2⟩ := ht t (by simp)
  exact ⟨p, q, Below.trod laidOut r1 r2 h1 hb (fun x hx => hp x (by simp [hx])), trodAll_below hb ts vs ds q h2 (fun t' h' => ht t' (by simp [h'])) (fun x hx => hp x (by simp [hx])), rfl⟩
 | [], _ :: _, _, _, h, _, _ => by cases h
 | _ :: _, [], _, _, h, _, _ => by cases h
 | [], [], _ :: _, _, h, _, _ => by cases h
 | _ :: _, _ :: _, [], _, h, _, _ => by cases h
theorem law_post {fn : Func} {s : ChangeSpec} {W W' : World} {args : Array Value} {ds gs : List (DataW H)} {before : List MemPlace}
  (hvars : s.vars = []) (hres : fn.resultTypes = #[4]) (hread : ∀ t ∈ fn.params.toList, Tryz.prog.readableRec t = true ∧ t < Tryz.prog.types.size)
  (hW : DataW.Whole enc Tryz.prog fn.params.toList s.vars false W args.toList ds gs before)
  (hs : s.fn H (ds ++ gs) = { results := [.lit (.bool true)], args := ds })
  (hb : Below W.heap.size W W') : s.post enc Tryz.prog fn false true false false W args (.bool true) W' := by
 have hW' := hW
 obtain ⟨p, q, hA, hV, rfl, hfz, hnd⟩ := hW
 rw [hvars] at hV
 obtain ⟨rfl, rfl⟩ := trodVars_none hV
 refine ⟨ds, [], p ++ [], [], p, [], hW', ?_, ?_, ?_, hb.frame _, fun h => by cases h⟩
 ·rw [hres, hs]
  exact trodAll_cons_mk (shut_bool Tryz.underlying4 _) trodAll_mk0
 ·rw [hs]
  exact trodAll_below hb _ _ _ _ hA hread (fun x hx => hW'.lt x (by simp [hx]))
 ·rw [hs, hvars]
  rfl
theorem fits_cons {t : TypeId} {ts : List TypeId} {d : DataW H} {ds : List (DataW H)} (h : (DataW.weightsEach Tryz.prog (t :: ts) (d :: ds)).all (· ≤ reachBytes) = true) :
  Fits Tryz.prog t d ∧ (DataW.weightsEach Tryz.prog ts ds).all (· ≤ reachBytes) = true := by
 rw [DataW.weightsEach, List.all_append, Bool.and_eq_true] at h
 exact ⟨fun n hn => by simpa using (List.all_eq_true.1 h.1) n hn, h.2⟩
end
end Go.Proofs.YtjohcnhiblfbnaaGreatDoor
namespace Go.Proofs.YtjohcnhiblfbnaaGreatDoor
open Go.ChangeShapes Go.WideShapes Go.ChangeAt Go.RowKit Go.Deep Go.Joins
section
variable {H : Type} {enc : TypeId × Value → H} {W : World}
theorem fits_slice {st et : TypeId} {bytes : Nat} (hu : Tryz.prog.underlying st = some (.slice et)) (hb : Tryz.prog.bytesOf et = bytes) {elems spare : List (DataW H)} (h : Fits Tryz.prog st (.slice elems spare)) : (elems.length + spare.length) * bytes ≤ 140737488351232 ∧ ∀ d ∈ elems, Fits Tryz.prog et d := by
 simp only [Fits, DataW.weights, hu, hb] at h
 refine ⟨h _ (List.mem_cons_self), fun d hd n hn => h n (List.mem_cons_of_mem _ (List.mem_append_left _ (weightsAll_mem hd n hn)))⟩
set_option maxRecDepth 100000 in
theorem slg_of_trod {α : Type} {st et : TypeId} {n bytes : Nat} (R : α → (Nat → Value) → Prop) (x0 : α) (hu : Tryz.prog.underlying st = some (.slice et)) (hc : Tryz.prog.cellsOf et = n) (hb : Tryz.prog.bytesOf et = bytes) (hn : 0 < n)
  (d : DataW H) (fuel : Nat) (v : Value) (ps : List MemPlace) (h : DataW.trod enc Tryz.prog W 0 (fun _ => true) true fuel st [v] = some (d, ps)) (hf : Fits Tryz.prog st d)
  (hel : ∀ (d' : DataW H) (fuel' : Nat) (cs : List Value) (ps' : List MemPlace), SizeOf.sizeOf d' < SizeOf.sizeOf d → DataW.trod enc Tryz.prog W 0 (fun _ => true) true fuel' et cs = some (d', ps') → Fits Tryz.prog et d' → ∃ (x : α) (c : Nat → Value), (∀ j, j < n → cs[j]? = some (c j)) ∧ R x c) :
  ∃ l, SlG (fun k => k < W.heap.size) W n bytes R l v ∧ l.length * bytes ≤ 140737488351232 := by
 rcases open_slice hu h with ⟨hcs, hx⟩ | ⟨a, len, cap, mm, nf, D, Pl, hcs, _, hl, hm, hmm, hx, hall⟩
 ·simp only [List.cons.injEq, and_true] at hcs
  subst hcs
  exact ⟨[], ⟨none, 0, 0, 0, rfl, Nat.le_refl _, by simp, fun h => by omega, fun h => by simp at h, fun i hi => by simp at hi⟩, by simp⟩
 ·simp only [List.cons.injEq, and_true] at hcs
  subst hcs
  simp only [if_true] at hmm
  subst hmm
  simp only [Prod.mk.injEq] at hx
  obtain ⟨hd, _⟩ := hx
  rw [hc] at hall
  have hfv := hf
  rw [hd] at hfv
  obtain ⟨hcap, hfe⟩ := fits_slice hu hb hfv
  have hcap' : mm * bytes ≤ 140737488351232 := by
   simp only [List.length_map, List.length_range] at hcap
   have : len + (mm - len) = mm := by omega
   rw [this] at hcap
   exact hcap
  have hsz : ∀ i, i < len → SizeOf.sizeOf (D i) < SizeOf.sizeOf d := fun i hi => by rw [hd]; exact sizeOf_mem hi
  have hspot : 0 < mm → a.spot = none := fun h0 => by
   obtain ⟨cs', g1, g2⟩ := hall 0 h0
   obtain ⟨_, hlen, hcell⟩ := World.cells?_some g1
   have hc0 : cs'[0]? = some (cs'[0]'(by omega)) := List.getElem?_eq_getElem _
   have := World.cell?_spot ((hcell 0 hn).trans hc0)
   simpa [Addr.add] using this
  have key : ∀ i : Nat, ∃ p : α × (Nat → Value), i < len → (∀ j, j < n → W.cell? ⟨a.block, a.off + i * n + j, none⟩ = some (p.2 j)) ∧ R p.1 p.2 := by
   intro i
   by_cases hi : i < len
   ·obtain ⟨cs', g1, g2⟩ := hall i (by omega)
    obtain ⟨x, c, hcj, hr⟩ := hel (D i) nf cs' (Pl i) (hsz i hi) g2 (hfe _ (List.mem_map_of_mem (List.mem_range.2 hi)))
    obtain ⟨_, hlen, hcell⟩ := World.cells?_some g1
    refine ⟨(x, c), fun _ => ⟨fun j hj => ?_, hr⟩⟩
    have hs := hspot (by omega)
    have e := (hcell j hj).trans (hcj j hj)
    obtain ⟨ab, ao, sp⟩ := a
    simp only at hs
    subst hs
    have add0 : ∀ (b o j : Nat), ((⟨b, o, none⟩ : Addr).add j) = ⟨b, o + j, none⟩ := by intro b o j; unfold Addr.add; split <;> simp_all
    rw [add0, add0] at e
    exact e
   ·exact ⟨(x0, fun _ => undef), fun h => absurd h hi⟩
  obtain ⟨X, hX⟩ := Classical.axiomOfChoice key
  have hby : len * bytes ≤ mm * bytes := Nat.mul_le_mul_right _ hl
  refine ⟨(List.range len).map (fun i => (X i).1), ⟨some a, a.block, a.off, mm, by simp, by simpa using hl, by simp; omega, fun h0 => ?_, fun h0 => ?_, fun i hi => ?_⟩, by simp; omega⟩
  ·have := hspot h0
   obtain ⟨b, o, sp⟩ := a
   simp at this
   subst this
   rfl
  ·simp at h0
   obtain ⟨q, _⟩ := hX 0 (by omega)
   exact cell_lt (a := ⟨a.block, _, none⟩) (q 0 hn)
  ·have hi' : i < len := by simpa using hi
   obtain ⟨q, hr⟩ := hX i hi'
   exact ⟨_, q, by rw [List.getElem_map, List.getElem_range]; exact hr⟩
def at7o (c0 c1 c2 c3 c4 c5 c6 : Value) : Nat → Value
 | 0 => c0 | 1 => c1 | 2 => c2 | 3 => c3 | 4 => c4 | 5 => c5 | _ => c6
end
end Go.Proofs.YtjohcnhiblfbnaaGreatDoor
namespace Go.Proofs.YtjohcnhiblfbnaaGreatDoor
open Go.RowKit
theorem none_zV {x : V} (h : noneB x = true) : x = zV := by
 cases x with
 | mk k n s l =>
  rw [noneB] at h
  simp only [Bool.and_eq_true, beq_iff_eq, List.isEmpty_iff, Lib.toList_data] at h
  obtain ⟨h1, h2, h3, h4⟩ := h
  have hs : s = ⟨#[]⟩ := ByteArray.ext (Array.toList_inj.1 (by simpa [V.text] using h3))
  rw [zV, hs]
  simp only [V.kind, V.num, V.list] at h1 h2 h4
  rw [h1, h2, h4]
theorem turnM_right {d : Nat} {t : Tm} (h : rightM d t = true) : turnM t = .mk t.kind (if t.kind = 1 then nPre t.name else t.name) t.val (turnL t.args) := by
 cases d with
 | zero => rw [rightM] at h; cases h
 | succ d =>
  cases t with
  | mk k s x l =>
   rw [turnM_eq]
   show (if k = 1 then _ else _) = Tm.mk k (if k = 1 then _ else _) x (turnL l)
   by_cases hk : k = 1
   ·rw [if_pos hk, if_pos hk]
    rw [rightM, if_pos hk] at h
    simp only [Bool.and_eq_true, List.isEmpty_iff] at h
    rw [none_zV h.2.1, h.2.2, hk, turnL]
   ·rw [if_neg hk, if_neg hk]; rfl
theorem fn_two (k : Nat) : fnArity k ≤ 2 := by
 match k with
 | 0 => decide
 | 1 => decide
 | 2 => decide
 | 3 => decide
 | 4 => decide
 | 5 => decide
 | 6 => decide
 | 7 => decide
 | 8 => decide
 | k + 9 => show (-1 : Int) ≤ 2; decide
theorem args_right {d : Nat} {t : Tm} (h : rightM (d + 1) t = true) : (∀ x ∈ t.args, rightM d x = true) ∧ t.args.length ≤ 8 := by
 cases t with
 | mk k s x l =>
  rw [rightM] at h
  show (∀ x ∈ l, _) ∧ l.length ≤ 8
  have no : l.isEmpty = true → (∀ x ∈ l, rightM d x = true) ∧ l.length ≤ 8 := fun h => by
   rw [List.isEmpty_iff] at h; subst h; exact ⟨fun _ h => by (cases h), by simp⟩
  split at h
  ·simp only [Bool.and_eq_true] at h; exact no h.2.2
  split at h
  ·simp only [Bool.and_eq_true] at h; exact no h.2.2
  split at h
  ·simp only [Bool.and_eq_true] at h
   obtain ⟨b1, b2, b3⟩ := listB_bounds h.2
   have := fn_two (fnOf s)
   exact ⟨b3, by omega⟩
  split at h
  ·simp only [Bool.and_eq_true] at h
   obtain ⟨b1, b2, b3⟩ := listB_bounds h.2.2
   exact ⟨b3, by omega⟩
  ·cases h
theorem turn7_take (l : List Tm) {k : Nat} (h : k < l.length) : turnL (l.take (k + 1)) = turnL (l.take k) ++ [turnM l[k]] := by
 rw [turnL_map, turnL_map, List.take_succ_eq_append_getElem h, List.map_append]; rfl
def T7 (d : Nat) : Prop := ∀ (l : List Tm), l.length ≤ 8 → (∀ t ∈ l, rightM d t = true) → ∀ (S : Nat → Prop) (w : World) (v : Value), (∀ k, S k → k < w.heap.size) → RepMs S w l v →
 Calls Tryz.prog 21 #[v] w fun e w' => ∃ u, e = .returned u ∧ RepMs (fun b => S b ∨ (w.heap.size ≤ b ∧ b < w'.heap.size ∧ TyB 52 w' b)) w' (turnL l) u ∧ Below w.heap.size w w'
set_option maxRecDepth 100000 in
set_option maxHeartbeats 8000000 in
theorem turned7_of (d : Nat) (hp : ∀ e, d = e + 1 → T7 e) : T7 d := by
 intro l hl8 hr8 S w v hS hl
 have HL := Lib.hid hl; have HS := Lib.hid hS; have HR := Lib.hid hr8; have HLN := Lib.hid hl8; have HP := Lib.hid hp
 obtain ⟨ga, gc, rfl⟩ := SlG.form hl
 clear hl hS hr8 hl8 hp
 go_enter Tryz.func21, Tryz.ntmps21
 go_wp2_with fail
 go_loopw [3, 4] (fun ov iv wr => ∃ k : Nat, k ≤ l.length ∧ iv = .int .i64 (k : Int) ∧ MineT kdTm S wr w.heap.size (turnL (l.take k)) ov ∧ Below w.heap.size w wr) (fun _ iv _ => l.length - (intOf iv).toNat)
 case atStart => exact ⟨0, Nat.zero_le _, rfl, MineT.nil _ _, Below.refl _ _⟩
 case round =>
  obtain ⟨k, hk, rfl, hm, hb⟩ := hrel
  have HM := Lib.hid hm; have HB := Lib.hid hb
  clear hm hb
  by_cases hlt : k < l.length
  ·have i1 : decide ((k : Int) < (l.length : Int)) = true := decide_eq_true (by omega)
   have i2 : decide (k < l.length) = true := decide_eq_true hlt
   obtain ⟨-, -, lb, lo, fa, fc, xa, xc, hga, hlb, g0, g1, g2, g3, g4, g5, g6, g⟩ := RepMs.at HL.out k hlt
   have hlw : lb < w.heap.size := HS.out lb hlb
   replace g0 := (HB.out.cell (p := ⟨lb, lo + k * 7, none⟩) hlw).trans g0
   replace g1 := (HB.out.cell (p := ⟨lb, lo + k * 7 + 1, none⟩) hlw).trans g1
   replace g2 := (HB.out.cell (p := ⟨lb, lo + k * 7 + 2, none⟩) hlw).trans g2
   replace g3 := (HB.out.cell (p := ⟨lb, lo + k * 7 + 3, none⟩) hlw).trans g3
   replace g4 := (HB.out.cell (p := ⟨lb, lo + k * 7 + 4, none⟩) hlw).trans g4
   replace g5 := (HB.out.cell (p := ⟨lb, lo + k * 7 + 5, none⟩) hlw).trans g5
   replace g6 := (HB.out.cell (p := ⟨lb, lo + k * 7 + 6, none⟩) hlw).trans g6
   have hk1 : (0 : Int) ≤ (k : Int) := Int.natCast_nonneg k
   have hk2 : (k : Int) < (l.length : Int) := by omega
   have HR8 := Lib.hid (HR.out l[k] (List.getElem_mem hlt))
   have HTK := Lib.hid (turn7_take l hlt)
   have HKL := Lib.hid hlt
   have HG : Hid (RepM S wr l[k] (.int .i64 l[k].kind) (.string l[k].name) (.int .i64 l[k].val.kind) (.int .i64 l[k].val.num) (.string l[k].val.text) (.slice fa l[k].val.list.length fc) (.slice xa l[k].args.length xc)) := RepM.on (fun _ h => h) (fun b hb => HB.out.block b (HS.out b hb)) _ g
   have HLL : Hid ((turnL (l.take k)).length ≤ 1000) := by show _ ≤ _; rw [len_turn, List.length_take]; have := HLN.out; omega
   subst hga
   clear g hlb hlw
   generalize l[k] = t at *
   clear hk hlt
   obtain ⟨d, rfl⟩ : ∃ e, d = e + 1 := (match d, HR8 with | 0, h => by have := h.out; rw [rightM] at this; cases this | e + 1, _ => ⟨e, rfl⟩)
   have HIH := Lib.hid (HP.out d rfl)
   have HAR := Lib.hid (args_right HR8.out)
   have HI : Hid (I64 t.kind ∧ t.name.size ≤ maxLen ∧ RepG S wr t.val (.int .i64 t.val.kind) (.int .i64 t.val.num) (.string t.val.text) (.slice fa t.val.list.length fc)) := by
    have h := HG.out
    cases t with
    | mk k s x l => exact ⟨(repM_mk.1 h).2.2.1, (repM_mk.1 h).2.2.2.1, (repM_mk.1 h).2.2.2.2.1⟩
   have HGA : Hid (RepMs S wr t.args (.slice xa t.args.length xc)) := by
    have h := HG.out
    cases t with
    | mk k s x l => exact (repM_mk.1 h).2.2.2.2.2
   have HN1 : Hid (t.kind = 1 → t.name.size ≤ 16) := by
    show _ → _
    intro hk
    have hr := HR8.out
    cases t with
    | mk k s x l =>
     rw [rightM, if_pos (show k = 1 from hk)] at hr
     simp only [Bool.and_eq_true] at hr
     have hv := hr.1
     rw [varB, decide_eq_true_eq] at hv
     exact hv.2.1
   have HNS : Hid (t.kind = 1 → (nPre t.name).size ≤ maxLen) := by
    show _ → _
    intro hk
    have := HN1.out hk
    rw [nPre, ByteArray.size_append]
    show 1 + _ ≤ _
    unfold maxLen; omega
   by_cases h1 : t.kind = 1
   ·have i3 : decide (t.kind = 1) = true := decide_eq_true h1
    have hadd := strAdd ⟨#[78]⟩ t.name (by have := HN1.out h1; show 1 + _ ≤ _; omega)
    rw [show (⟨#[78]⟩ ++ t.name : ByteArray) = nPre t.name from rfl] at hadd
    have mk := boxM_new wr (.int .i64 1) (.string (nPre t.name)) (.int .i64 t.val.kind) (.int .i64 t.val.num) (.string t.val.text) (.slice fa t.val.list.length fc) (.slice xa t.args.length xc)
    have da := below_alloc wr (.cells #[.int .i64 1, .string (nPre t.name), .int .i64 t.val.kind, .int .i64 t.val.num, .string t.val.text, .slice fa t.val.list.length fc, .slice xa t.args.length xc] 52)
    have sa := World.size_alloc wr (.cells #[.int .i64 1, .string (nPre t.name), .int .i64 t.val.kind, .int .i64 t.val.num, .string t.val.text, .slice fa t.val.list.length fc, .slice xa t.args.length xc] 52)
    go_wp2_with fail
    generalize wr.alloc (.cells #[.int .i64 1, .string (nPre t.name), .int .i64 t.val.kind, .int .i64 t.val.num, .string t.val.text, .slice fa t.val.list.length fc, .slice xa t.args.length xc] 52) = w1 at *
    have hga : RepMs S w1 t.args (.slice xa t.args.length xc) := RepMs.on (fun _ h => h) (fun b hb => da.block b (Nat.lt_of_lt_of_le (HS.out b hb) HB.out.size)) HGA.out
    refine (HIH.out t.args HAR.out.2 HAR.out.1 S w1 _ (fun b hb => Nat.lt_of_lt_of_le (HS.out b hb) (Nat.le_trans HB.out.size da.size)) hga).mono ?_
    rintro e w2 ⟨u, rfl, hrep, hb⟩
    obtain ⟨ua, uc, rfl⟩ := SlG.form hrep
    have hbox := mk.on hb
    have hb2 : Below wr.heap.size wr w2 := Below.step da hb
    obtain ⟨kb, hkb⟩ : ∃ k, wr.heap.size = k := ⟨_, rfl⟩
    have KB := Lib.hid hkb
    rw [hkb] at hbox ⊢
    have hb3 : Below wr.heap.size wr (w2.setCell ⟨kb, 6, none⟩ (.slice ua (turnL t.args).length uc)) := hb2.setCell (p := ⟨kb, 6, none⟩) (show wr.heap.size ≤ kb by omega) _
    have hbox3 : BoxM (w2.setCell ⟨kb, 6, none⟩ (.slice ua (turnL t.args).length uc)) kb (.int .i64 1) (.string (nPre t.name)) (.int .i64 t.val.kind) (.int .i64 t.val.num) (.string t.val.text) (.slice fa t.val.list.length fc) (.slice ua (turnL t.args).length uc) := heap_setCell_same _ _ _ _ _ _ hbox
    have hs3 : (w2.setCell ⟨kb, 6, none⟩ (.slice ua (turnL t.args).length uc)).heap.size = w2.heap.size := by simp [World.setCell]
    have hne : ∀ b, b ≠ kb → (w2.setCell ⟨kb, 6, none⟩ (.slice ua (turnL t.args).length uc)).heap[b]? = w2.heap[b]? := fun b hb => Below.heap_setCell _ _ _ _ hb
    obtain ⟨w3, hw3⟩ : ∃ w, w2.setCell ⟨kb, 6, none⟩ (.slice ua (turnL t.args).length uc) = w := ⟨_, rfl⟩
    rw [hw3] at hb3 hbox3 hs3 hne
    have dr := below_alloc w3 (.cells #[.int .i64 1, .string (nPre t.name), .int .i64 t.val.kind, .int .i64 t.val.num, .string t.val.text, .slice fa t.val.list.length fc, .slice ua (turnL t.args).length uc] 52)
    have sr := World.size_alloc w3 (.cells #[.int .i64 1, .string (nPre t.name), .int .i64 t.val.kind, .int .i64 t.val.num, .string t.val.text, .slice fa t.val.list.length fc, .slice ua (turnL t.args).length uc] 52)
    have nr := alloc_new' w3 (.cells #[.int .i64 1, .string (nPre t.name), .int .i64 t.val.kind, .int .i64 t.val.num, .string t.val.text, .slice fa t.val.list.length fc, .slice ua (turnL t.args).length uc] 52)
    have hm3 := (HM.out.on hb3).on dr
    have hs0 := HB.out.size; have hs2 := hb.size; have hs5 := hb3.size
    have hy : turnM t = .mk 1 (nPre t.name) t.val (turnL t.args) := by rw [turnM_right HR8.out, if_pos h1, h1]
    have hR : kdTm.R (fun b => (S b ∨ (w.heap.size ≤ b ∧ TyB kdTm.T (w3.alloc (.cells #[.int .i64 1, .string (nPre t.name), .int .i64 t.val.kind, .int .i64 t.val.num, .string t.val.text, .slice fa t.val.list.length fc, .slice ua (turnL t.args).length uc] 52)) b)) ∧ b < (w3.alloc (.cells #[.int .i64 1, .string (nPre t.name), .int .i64 t.val.kind, .int .i64 t.val.num, .string t.val.text, .slice fa t.val.list.length fc, .slice ua (turnL t.args).length uc] 52)).heap.size ∧ u3.ownBlock ≠ some b) (w3.alloc (.cells #[.int .i64 1, .string (nPre t.name), .int .i64 t.val.kind, .int .i64 t.val.num, .string t.val.text, .slice fa t.val.list.length fc, .slice ua (turnL t.args).length uc] 52)) (turnM t) (at7o (.int .i64 1) (.string (nPre t.name)) (.int .i64 t.val.kind) (.int .i64 t.val.num) (.string t.val.text) (.slice fa t.val.list.length fc) (.slice ua (turnL t.args).length uc)) := by
     rw [hy]
     refine repM_mk.2 ⟨rfl, rfl, (by have := HI.out.1; rw [h1] at this; exact this), HNS.out h1, ?_, ?_⟩
     ·refine RepG.on (fun b hb' => ?_) (fun b hb' => ?_) _ HI.out.2.2
      ·have h1 := HS.out b hb'
       exact ⟨.inl hb', by omega, fun e => by have := (HM.out.lies b e).1; omega⟩
      ·have h1 := HS.out b hb'
       exact (dr.block b (by omega)).trans (hb3.block b (by omega))
     ·refine RepMs.on (fun b hb' => ?_) (fun b hb' => ?_) hrep
      ·rcases hb' with hb' | hb'
       ·have h1 := HS.out b hb'
        exact ⟨.inl hb', by omega, fun e => by have := (HM.out.lies b e).1; omega⟩
       ·exact ⟨.inr ⟨by omega, hb'.2.2.at ((dr.block b (by omega)).trans (hne b (by omega)))⟩, by omega, fun e => by have := (HM.out.lies b e).2; omega⟩
      ·have hbk : b ≠ kb ∧ b < w2.heap.size := by
        rcases hb' with hb' | hb'
        ·have h1 := HS.out b hb'; constructor <;> omega
        ·constructor <;> omega
       exact (dr.block b (by omega)).trans (hne b hbk.1)
    obtain ⟨a6, cap6, w6, hrun, hm6, hg6⟩ := MineT.append hm3 (by omega) HLL.out nr (fun j hj => match j, hj with | 0, _ => rfl | 1, _ => rfl | 2, _ => rfl | 3, _ => rfl | 4, _ => rfl | 5, _ => rfl | 6, _ => rfl) hR 40
    have hb6 : Below w.heap.size w w6 := by
     have h3 := Below.step (Below.step HB.out hb3) dr
     exact ⟨hg6.os.trans h3.os, hg6.tape.trans h3.tape, hg6.output.trans h3.output, Nat.le_trans h3.size hg6.size, fun b hb' => (hg6.block b (Nat.lt_of_lt_of_le hb' h3.size) (fun e => by have := (HM.out.lies b e.symm).1; omega)).trans (h3.block b hb')⟩
    have HRUN := Lib.hid hrun; have HM6 := Lib.hid hm6; have HB6 := Lib.hid hb6
    obtain ⟨x0, x1, x2, x3, x4, x5, x6⟩ := hbox.cells
    have z6 := frozen_of_row w2 kb 6 _ _ hbox
    obtain ⟨y0, y1, y2, y3, y4, y5, y6⟩ := hbox3.cells
    clear hrep hb hb2 hb3 hm3 hs0 hs2 hs3 hs5 hne dr sr nr hR hrun hm6 hg6 hb6 hga mk da sa hy hbox hbox3 hkb
    go_wp2_with (at_builtin; refine wpList_append_by rfl _ _ _ rfl rfl rfl HRUN.out ?_)
    go_roundw
    case rel => exact ⟨k + 1, HKL.out, (by have := HKL.out; have := HLN.out; rw [show wrap64 ((k : Int) + 1) = ((k + 1 : Nat) : Int) by unfold wrap64; omega]), by rw [HTK.out]; exact HM6.out, HB6.out⟩
    case measure => exact measure_up HKL.out (by have := HLN.out; omega)
   ·have i3 : decide (t.kind = 1) = false := decide_eq_false h1
    have mk := boxM_new wr (.int .i64 t.kind) (.string t.name) (.int .i64 t.val.kind) (.int .i64 t.val.num) (.string t.val.text) (.slice fa t.val.list.length fc) (.slice xa t.args.length xc)
    have da := below_alloc wr (.cells #[.int .i64 t.kind, .string t.name, .int .i64 t.val.kind, .int .i64 t.val.num, .string t.val.text, .slice fa t.val.list.length fc, .slice xa t.args.length xc] 52)
    have sa := World.size_alloc wr (.cells #[.int .i64 t.kind, .string t.name, .int .i64 t.val.kind, .int .i64 t.val.num, .string t.val.text, .slice fa t.val.list.length fc, .slice xa t.args.length xc] 52)
    go_wp2_with fail
    generalize wr.alloc (.cells #[.int .i64 t.kind, .string t.name, .int .i64 t.val.kind, .int .i64 t.val.num, .string t.val.text, .slice fa t.val.list.length fc, .slice xa t.args.length xc] 52) = w1 at *
    have hga : RepMs S w1 t.args (.slice xa t.args.length xc) := RepMs.on (fun _ h => h) (fun b hb => da.block b (Nat.lt_of_lt_of_le (HS.out b hb) HB.out.size)) HGA.out
    refine (HIH.out t.args HAR.out.2 HAR.out.1 S w1 _ (fun b hb => Nat.lt_of_lt_of_le (HS.out b hb) (Nat.le_trans HB.out.size da.size)) hga).mono ?_
    rintro e w2 ⟨u, rfl, hrep, hb⟩
    obtain ⟨ua, uc, rfl⟩ := SlG.form hrep
    have hbox := mk.on hb
    have hb2 : Below wr.heap.size wr w2 := Below.step da hb
    obtain ⟨kb, hkb⟩ : ∃ k, wr.heap.size = k := ⟨_, rfl⟩
    have KB := Lib.hid hkb
    rw [hkb] at hbox ⊢
    have hb3 : Below wr.heap.size wr (w2.setCell ⟨kb, 6, none⟩ (.slice ua (turnL t.args).length uc)) := hb2.setCell (p := ⟨kb, 6, none⟩) (show wr.heap.size ≤ kb by omega) _
    have hbox3 : BoxM (w2.setCell ⟨kb, 6, none⟩ (.slice ua (turnL t.args).length uc)) kb (.int .i64 t.kind) (.string t.name) (.int .i64 t.val.kind) (.int .i64 t.val.num) (.string t.val.text) (.slice fa t.val.list.length fc) (.slice ua (turnL t.args).length uc) := heap_setCell_same _ _ _ _ _ _ hbox
    have hs3 : (w2.setCell ⟨kb, 6, none⟩ (.slice ua (turnL t.args).length uc)).heap.size = w2.heap.size := by simp [World.setCell]
    have hne : ∀ b, b ≠ kb → (w2.setCell ⟨kb, 6, none⟩ (.slice ua (turnL t.args).length uc)).heap[b]? = w2.heap[b]? := fun b hb => Below.heap_setCell _ _ _ _ hb
    obtain ⟨w3, hw3⟩ : ∃ w, w2.setCell ⟨kb, 6, none⟩ (.slice ua (turnL t.args).length uc) = w := ⟨_, rfl⟩
    rw [hw3] at hb3 hbox3 hs3 hne
    have dr := below_alloc w3 (.cells #[.int .i64 t.kind, .string t.name, .int .i64 t.val.kind, .int .i64 t.val.num, .string t.val.text, .slice fa t.val.list.length fc, .slice ua (turnL t.args).length uc] 52)
    have sr := World.size_alloc w3 (.cells #[.int .i64 t.kind, .string t.name, .int .i64 t.val.kind, .int .i64 t.val.num, .string t.val.text, .slice fa t.val.list.length fc, .slice ua (turnL t.args).length uc] 52)
    have nr := alloc_new' w3 (.cells #[.int .i64 t.kind, .string t.name, .int .i64 t.val.kind, .int .i64 t.val.num, .string t.val.text, .slice fa t.val.list.length fc, .slice ua (turnL t.args).length uc] 52)
    have hm3 := (HM.out.on hb3).on dr
    have hs0 := HB.out.size; have hs2 := hb.size; have hs5 := hb3.size
    have hy : turnM t = .mk t.kind t.name t.val (turnL t.args) := by rw [turnM_right HR8.out, if_neg h1]
    have hR : kdTm.R (fun b => (S b ∨ (w.heap.size ≤ b ∧ TyB kdTm.T (w3.alloc (.cells #[.int .i64 t.kind, .string t.name, .int .i64 t.val.kind, .int .i64 t.val.num, .string t.val.text, .slice fa t.val.list.length fc, .slice ua (turnL t.args).length uc] 52)) b)) ∧ b < (w3.alloc (.cells #[.int .i64 t.kind, .string t.name, .int .i64 t.val.kind, .int .i64 t.val.num, .string t.val.text, .slice fa t.val.list.length fc, .slice ua (turnL t.args).length uc] 52)).heap.size ∧ u3.ownBlock ≠ some b) (w3.alloc (.cells #[.int .i64 t.kind, .string t.name, .int .i64 t.val.kind, .int .i64 t.val.num, .string t.val.text, .slice fa t.val.list.length fc, .slice ua (turnL t.args).length uc] 52)) (turnM t) (at7o (.int .i64 t.kind) (.string t.name) (.int .i64 t.val.kind) (.int .i64 t.val.num) (.string t.val.text) (.slice fa t.val.list.length fc) (.slice ua (turnL t.args).length uc)) := by
     rw [hy]
     refine repM_mk.2 ⟨rfl, rfl, HI.out.1, HI.out.2.1, ?_, ?_⟩
     ·refine RepG.on (fun b hb' => ?_) (fun b hb' => ?_) _ HI.out.2.2
      ·have h1 := HS.out b hb'
       exact ⟨.inl hb', by omega, fun e => by have := (HM.out.lies b e).1; omega⟩
      ·have h1 := HS.out b hb'
       exact (dr.block b (by omega)).trans (hb3.block b (by omega))
     ·refine RepMs.on (fun b hb' => ?_) (fun b hb' => ?_) hrep
      ·rcases hb' with hb' | hb'
       ·have h1 := HS.out b hb'
        exact ⟨.inl hb', by omega, fun e => by have := (HM.out.lies b e).1; omega⟩
       ·exact ⟨.inr ⟨by omega, hb'.2.2.at ((dr.block b (by omega)).trans (hne b (by omega)))⟩, by omega, fun e => by have := (HM.out.lies b e).2; omega⟩
      ·have hbk : b ≠ kb ∧ b < w2.heap.size := by
        rcases hb' with hb' | hb'
        ·have h1 := HS.out b hb'; constructor <;> omega
        ·constructor <;> omega
       exact (dr.block b (by omega)).trans (hne b hbk.1)
    obtain ⟨a6, cap6, w6, hrun, hm6, hg6⟩ := MineT.append hm3 (by omega) HLL.out nr (fun j hj => match j, hj with | 0, _ => rfl | 1, _ => rfl | 2, _ => rfl | 3, _ => rfl | 4, _ => rfl | 5, _ => rfl | 6, _ => rfl) hR 40
    have hb6 : Below w.heap.size w w6 := by
     have h3 := Below.step (Below.step HB.out hb3) dr
     exact ⟨hg6.os.trans h3.os, hg6.tape.trans h3.tape, hg6.output.trans h3.output, Nat.le_trans h3.size hg6.size, fun b hb' => (hg6.block b (Nat.lt_of_lt_of_le hb' h3.size) (fun e => by have := (HM.out.lies b e.symm).1; omega)).trans (h3.block b hb')⟩
    have HRUN := Lib.hid hrun; have HM6 := Lib.hid hm6; have HB6 := Lib.hid hb6
    obtain ⟨x0, x1, x2, x3, x4, x5, x6⟩ := hbox.cells
    have z6 := frozen_of_row w2 kb 6 _ _ hbox
    obtain ⟨y0, y1, y2, y3, y4, y5, y6⟩ := hbox3.cells
    clear hrep hb hb2 hb3 hm3 hs0 hs2 hs3 hs5 hne dr sr nr hR hrun hm6 hg6 hb6 hga mk da sa hy hbox hbox3 hkb
    go_wp2_with (at_builtin; refine wpList_append_by rfl _ _ _ rfl rfl rfl HRUN.out ?_)
    go_roundw
    case rel => exact ⟨k + 1, HKL.out, (by have := HKL.out; have := HLN.out; rw [show wrap64 ((k : Int) + 1) = ((k + 1 : Nat) : Int) by unfold wrap64; omega]), by rw [HTK.out]; exact HM6.out, HB6.out⟩
    case measure => exact measure_up HKL.out (by have := HLN.out; omega)
  ·have i1 : decide ((k : Int) < (l.length : Int)) = false := decide_eq_false (by omega)
   have i2 : decide (k < l.length) = false := decide_eq_false hlt
   have hkk : l.take k = l := List.take_of_length_le (by omega)
   rw [hkk] at HM
   clear hkk
   go_wp2_with fail
   go_ret
   refine ⟨_, rfl, ?_, HB.out⟩
   exact HM.out.slg (by rw [len_turn]; have := HLN.out; omega)
theorem turned7_any : ∀ d, T7 d
 | 0 => turned7_of 0 (fun e h => by cases h)
 | d + 1 => turned7_of (d + 1) (fun e h => by cases h; exact turned7_any d)
end Go.Proofs.YtjohcnhiblfbnaaGreatDoor
namespace Go.Proofs.YtjohcnhiblfbnaaGreatDoor
open Go.RowKit
end Go.Proofs.YtjohcnhiblfbnaaGreatDoor
