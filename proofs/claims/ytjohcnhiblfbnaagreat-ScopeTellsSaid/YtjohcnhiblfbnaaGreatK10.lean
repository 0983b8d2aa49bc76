/-
  ScVars, ScWalk, ScNames, ScSeq, ScAll
-/
import Derived.Test.YtjohcnhiblfbnaaGreatK02
import Derived.Test.YtjohcnhiblfbnaaGreatK03
import Derived.Test.YtjohcnhiblfbnaaGreatProg
import Derived.RangeFuncKeeps
import Derived.RangeFuncBound
import Derived.RangeFuncLeaves
import Derived.Shelf.Abstract
import Derived.WalkKit
import Derived.OwnWalkIn
import Derived.TacticsInMore
import Derived.LoopNIn
import Derived.LoopIn
import Derived.Lib.Hide
import Derived.StringKeys
import Derived.Maps.OwnSet
import Derived.RangeFuncWrites
import Derived.RangeFuncCalls
namespace Go.Proofs.YtjohcnhiblfbnaaGreat
open Go.RowKit
mutual
def varsM : Tm → List ByteArray
 | .mk k s _ l => (if k = 1 then [s] else []) ++ varsL l
def varsL : List Tm → List ByteArray
 | [] => []
 | t :: l => varsM t ++ varsL l
end
theorem varsM_eq (t : Tm) : varsM t = (if t.kind = 1 then [t.name] else []) ++ varsL t.args := by
 cases t with
 | mk k s x l => rw [varsM]; rfl
theorem varsL_append (l m : List Tm) : varsL (l ++ m) = varsL l ++ varsL m := by
 induction l with
 | nil => simp [varsL]
 | cons t l ih => simp [varsL, ih]
theorem varsL_take (l : List Tm) {k : Nat} (h : k < l.length) : varsL (l.take (k + 1)) = varsL (l.take k) ++ ((if l[k].kind = 1 then [l[k].name] else []) ++ varsL l[k].args) := by
 rw [List.take_succ_eq_append_getElem h, varsL_append, ← varsM_eq];simp [varsL]
abbrev Nm := { s : ByteArray // s.size ≤ maxLen }
def nm (s : ByteArray) : Nm := if h : s.size ≤ maxLen then ⟨s, h⟩ else ⟨⟨#[]⟩, by decide⟩
theorem nm_of {s : ByteArray} (h : s.size ≤ maxLen) : (nm s).1 = s := by rw [nm, dif_pos h]
def namesL (l : List Tm) : List Nm := (varsL l).map nm
theorem namesL_take (l : List Tm) {k : Nat} (h : k < l.length) : namesL (l.take (k + 1)) = namesL (l.take k) ++ ((if l[k].kind = 1 then [nm l[k].name] else []) ++ namesL l[k].args) := by
 rw [namesL, varsL_take l h, List.map_append, List.map_append, ← namesL, ← namesL]
 split <;> rfl
theorem namesL_length (l : List Tm) : (namesL l).length = (varsL l).length := by simp [namesL]
theorem namesL_take_le (l : List Tm) (k : Nat) : (namesL (l.take k)).length ≤ (varsL l).length := by
 rw [namesL_length]
 conv => rhs; rw [← List.take_append_drop k l, varsL_append]
 simp
theorem namesL_prefix (l : List Tm) (k : Nat) : namesL (l.take k) <+: namesL l := by
 refine ⟨namesL (l.drop k), ?_⟩;rw [namesL, namesL, namesL, ← List.map_append, ← varsL_append, List.take_append_drop]
theorem repM_name_le {S : Nat → Prop} {w : World} {l : List Tm} {v : Value} (h : RepMs S w l v) : ∀ s ∈ varsL l, s.size ≤ maxLen := by
 suffices H : ∀ (d : Nat) (l : List Tm) (v : Value), SizeOf.sizeOf l < d → RepMs S w l v → ∀ s ∈ varsL l, s.size ≤ maxLen from H _ l v (Nat.lt_succ_self _) h
 intro d
 induction d with
 | zero => intro l v hd; omega
 | succ d ih =>
  intro l v hd h
  suffices H : ∀ k, k ≤ l.length → ∀ s ∈ varsL (l.take k), s.size ≤ maxLen by
   have := H l.length (Nat.le_refl _)
   rwa [List.take_length] at this
  intro k
  induction k with
  | zero => intro _ s hs; simp [varsL] at hs
  | succ k ihk =>
   intro hk s hs;have hl : k < l.length := hk;obtain ⟨a, cap, rfl⟩ := SlG.form h;obtain ⟨-, -, b, o, fa, fc, ga, gc, -, -, -, -, -, -, -, -, -, g⟩ := RepMs.at h k hl;rw [varsL_take l hl] at hs;rcases List.mem_append.1 hs with hs | hs
   ·exact ihk (by omega) s hs
   ·rcases List.mem_append.1 hs with hs | hs
    ·split at hs
     ·rw [List.mem_singleton.1 hs]; exact (RepM.bounds g).2
     ·cases hs
    ·refine ih _ _ ?_ (RepM.lst g) s hs
     have h1 := List.sizeOf_lt_of_mem (List.getElem_mem hl)
     have h2 : SizeOf.sizeOf l[k].args < SizeOf.sizeOf l[k] := by
      cases l[k]
      simp only [Tm.args, Tm.mk.sizeOf_spec]
      omega
     omega
end Go.Proofs.YtjohcnhiblfbnaaGreat
namespace Go.Proofs.YtjohcnhiblfbnaaGreat
open Go.RowKit Go.Shelf
attribute [local go_sem] Oper.semAt_some
def keptB : Obj → Bool
 | .cells _ t _ => t != 9
 | _ => false
def KpD (n₀ D : Nat) (W W' : World) : Prop := Below n₀ W W' ∧ ∀ k o, D ≤ k → W.heap[k]? = some o → keptB o = true → W'.heap[k]? = some o
theorem KpD.refl (n₀ D : Nat) (W : World) : KpD n₀ D W W := ⟨Below.refl _ _, fun _ _ _ h _ => h⟩
theorem KpD.trans {n₀ D : Nat} {A B C : World} (h : KpD n₀ D A B) (k : KpD n₀ D B C) : KpD n₀ D A C := ⟨h.1.trans k.1, fun i o hi ho hc => k.2 i o hi (h.2 i o hi ho hc) hc⟩
theorem KpD.of_below {n₀ D : Nat} {A B C : World} (h : KpD n₀ D A B) (k : Below B.heap.size B C) (hn : n₀ ≤ B.heap.size) : KpD n₀ D A C :=
 h.trans ⟨k.mono hn, fun i _ _ ho _ => (k.block i (Array.getElem?_eq_some_iff.1 ho).1).trans ho⟩
def SK (n₀ D : Nat) (W0 : World) (k : Nat) : Prop := k < n₀ ∨ (D ≤ k ∧ ∃ o, W0.heap[k]? = some o ∧ keptB o = true)
theorem KpD.same {n₀ D : Nat} {W0 W : World} (h : KpD n₀ D W0 W) (k : Nat) (hk : SK n₀ D W0 k) : W.heap[k]? = W0.heap[k]? := by
 rcases hk with hk | ⟨hk, o, ho, hc⟩
 ·exact h.1.block k hk
 ·rw [ho]; exact h.2 k o hk ho hc
theorem KpD.putObj {n₀ D : Nat} (W : World) (l : Nat) (o o' : Obj) (hl : n₀ ≤ l) (hW : W.heap[l]? = some o) (ho : o.isCells = false) : KpD n₀ D W (W.putObj l o') := by
 have hg := grownBy_putObj' W l o';refine ⟨⟨hg.os, hg.tape, hg.output, hg.size, fun k hk => World.putObj_heap_other (by omega)⟩, fun k ok _ hk hc => ?_⟩
 by_cases e : k = l
 ·subst e
  rw [hW] at hk
  cases hk
  cases o <;> first | (cases ho; done) | (cases hc; done) | (simp [Obj.isCells] at ho)
 ·exact (World.putObj_heap_other (fun h => e h)).trans hk
theorem BoxM.kp {w w' : World} {k n₀ D : Nat} {c0 c1 c2 c3 c4 c5 c6 : Value} (h : BoxM w k c0 c1 c2 c3 c4 c5 c6) (hk : KpD n₀ D w w') (hD : D ≤ k) : BoxM w' k c0 c1 c2 c3 c4 c5 c6 := hk.2 k _ hD h rfl
theorem room_of_none {F : Fence} (hd : F.depth = none) (k : Nat) : F.room k := fun d h => by rw [hd] at h; cases h
theorem roundIn_anyDepth {F : Fence} (hd : F.depth = none) {m m' : Nat} {P : Program} {l : Nat} {f : FuncId} {tmps : Array Value} {assign body : Code} {w : World} {R : Ending → World → Prop}
  (h : RoundIn F m P l f tmps assign body w R) : RoundIn F m' P l f tmps assign body w R := ⟨h.1, fun c cs _ => h.2 c cs (room_of_none hd _)⟩
theorem yieldAt_anyDepth {F : Fence} (hd : F.depth = none) {m : Nat} (m' : Nat) {P : Program} {l : Nat} {args : Array Value} {W : World} {R : Ending → World → Prop} (h : YieldAt F m P l args W R) : YieldAt F m' P l args W R := by
 obtain ⟨fn, tmps, assign, body, hy, hR⟩ := h;exact ⟨fn, tmps, assign, body, hy, roundIn_anyDepth hd hR⟩
def WalkPost (n₀ D : Nat) (J Jx : List Nm → World → Prop) (pre xs : List Nm) (W : World) (e : Ending) (W' : World) : Prop :=
 (e = .returned (.bool true) ∧ J (pre ++ xs) W' ∧ KpD n₀ D W W') ∨ (e = .returned (.bool false) ∧ ∃ q, q <+: xs ∧ Jx (pre ++ q) W')
set_option maxRecDepth 100000 in
set_option maxHeartbeats 4000000 in
theorem walk_inside (F : Fence) (hd : F.depth = none) (h50 : F.fn 70) (hro : F.round = none) (l n₀ D N : Nat) (W0 : World) (J Jx : List Nm → World → Prop) (hJ : ∀ s W o, J s W → J s (W.alloc o))
  (hY : ∀ m pre x W, J pre W → pre.length < N → YieldAt F m Tryz.prog l #[.string x.1] W fun e W' =>
   (e = .returned (.bool true) ∧ J (pre ++ [x]) W' ∧ KpD n₀ D W W') ∨ (e = .returned (.bool false) ∧ Jx (pre ++ [x]) W')) :
  ∀ (d : Nat) (L : List Tm), SizeOf.sizeOf L < d → ∀ (n : Nat) (pre : List Nm) (W : World) (v : Value), n₀ ≤ W.heap.size → D ≤ W.heap.size → KpD n₀ D W0 W → RepMs (SK n₀ D W0) W0 L v → J pre W → pre.length + (varsL L).length ≤ N →
   CallsIn F n Tryz.prog 70 #[v, .func (.yield l) #[] #[]] W (WalkPost n₀ D J Jx pre (namesL L) W) := by
 intro d
 induction d with
 | zero => intro L hL; omega
 | succ d ih =>
  intro L hL n pre W v hn0 hD hk0 hrep hJ0 hN;have hdd : ∀ k : Nat, (F.depth.isSome = true → 1 ≤ k) := fun k h => by rw [hd] at h; cases h
  obtain ⟨a, cap, rfl⟩ := SlG.form hrep;have hlb := SlG.bytes hrep;have HA := Lib.hid hrep; have IH := Lib.hid ih; have HLd := Lib.hid hL; have HNm := Lib.hid (repM_name_le hrep)
  have HK0 := Lib.hid hk0; have HNN := Lib.hid hN; have HY := Lib.hid hY; have HJ := Lib.hid hJ
  clear hrep ih hL hN hY hJ hk0;refine callsIn_of_wp Tryz.func70 rfl h50 ?_ hro;simp only [Tryz.ntmps70, List.size_toArray, List.length_cons, List.length_nil, Nat.reduceAdd, Nat.reduceSub, Array.replicate_succ, Array.replicate_zero, List.push_toArray, List.append_toArray, List.nil_append, List.cons_append]
  gi_wp2
  gi_loopw [9] (fun i wr => ∃ k : Nat, k ≤ L.length ∧ i = .int .i64 k ∧ J (pre ++ namesL (L.take k)) wr ∧ Hid (KpD n₀ D W wr)) (fun i _ => L.length - (intOf i).toNat)
  case atStart => exact ⟨0, Nat.zero_le _, rfl, by simpa [namesL, varsL] using hJ0, KpD.refl _ _ _⟩
  case round =>
   obtain ⟨k, hk, rfl, hJs, hkp⟩ := hrel;have hn1 : n₀ ≤ wr.heap.size := Nat.le_trans hn0 hkp.out.1.size;have hD1 : D ≤ wr.heap.size := Nat.le_trans hD hkp.out.1.size
   by_cases hl : k < L.length
   ·obtain ⟨-, -, b, o, fa, fc, ga, gc, rfl, hSb, g0, g1, g2, g3, g4, g5, g6, g⟩ := RepMs.at HA.out k hl
    have hbk := (HK0.out.trans hkp.out).same b hSb;replace g0 := (World.cell?_of_block (w := W0) hbk).trans g0;replace g1 := (World.cell?_of_block (w := W0) hbk).trans g1;replace g2 := (World.cell?_of_block (w := W0) hbk).trans g2;replace g3 := (World.cell?_of_block (w := W0) hbk).trans g3;replace g4 := (World.cell?_of_block (w := W0) hbk).trans g4;replace g5 := (World.cell?_of_block (w := W0) hbk).trans g5;replace g6 := (World.cell?_of_block (w := W0) hbk).trans g6;have G := Lib.hid g;have HT := Lib.hid (namesL_take L hl)
    have HLE : Hid ((pre ++ namesL (L.take k)).length + ((if L[k].kind = 1 then [nm L[k].name] else []) ++ namesL L[k].args).length ≤ N) := by
     show _ ≤ _
     have h1 := namesL_take_le L (k + 1);rw [HT.out] at h1;have := HNN.out;simp only [List.length_append] at h1 ⊢
     omega
    have HSZ : Hid (SizeOf.sizeOf L[k].args < d) := by
     show _ < _
     have h1 := List.sizeOf_lt_of_mem (List.getElem_mem hl)
     have h2 : SizeOf.sizeOf L[k].args < SizeOf.sizeOf L[k] := by
      cases L[k]
      simp only [Tm.args, Tm.mk.sizeOf_spec]
      omega
     have := HLd.out;omega
    have HNZ := Lib.hid (RepM.bounds g).2
    have HPX : Hid (∀ q, q <+: ((if L[k].kind = 1 then [nm L[k].name] else []) ++ namesL L[k].args) → namesL (L.take k) ++ q <+: namesL L) := by
     intro q hq;obtain ⟨r, hr⟩ := hq;obtain ⟨s, hs⟩ := namesL_prefix L (k + 1);exact ⟨r ++ s, by rw [← hs, HT.out, ← hr]; simp⟩
    clear g hbk hSb;generalize L[k] = z at *;have hJa := HJ.out _ wr (.cells #[.int .i64 z.kind, .string z.name, .int .i64 z.val.kind, .int .i64 z.val.num, .string z.val.text, .slice fa z.val.list.length fc, .slice ga z.args.length gc] 34) hJs;have hba := below_alloc wr (.cells #[.int .i64 z.kind, .string z.name, .int .i64 z.val.kind, .int .i64 z.val.num, .string z.val.text, .slice fa z.val.list.length fc, .slice ga z.args.length gc] 34);have hbx := boxM_new wr (.int .i64 z.kind) (.string z.name) (.int .i64 z.val.kind) (.int .i64 z.val.num) (.string z.val.text) (.slice fa z.val.list.length fc) (.slice ga z.args.length gc);have HKA := Lib.hid (hkp.out.of_below hba hn1);have HZ := Lib.hid (RepM.lst G.out)
    by_cases hk1 : z.kind = 1
    ·have hkb : (z.kind == 1) = true := by simp [hk1]
     rw [if_pos hk1] at HT HLE HPX;obtain ⟨fn, tmps, assign, body, hy, hR⟩ := HY.out (n - 1) _ (nm z.name) _ hJa (by have := HLE.out; simp only [List.length_append, List.length_cons, List.length_nil] at this ⊢; omega);rw [nm_of HNZ.out] at hy;clear hk1 hJa
     gi_wp2
     refine hR.mono ?_;clear hR hy;rintro e W3 (⟨rfl, hJ3, hb3⟩ | ⟨rfl, hx3⟩)
     ·have HB3 := Lib.hid (HKA.out.trans hb3)
      obtain ⟨c0, c1, c2, c3, c4, c5, c6⟩ := (hbx.kp hb3 hD1).cells
      have ih1 := IH.out z.args HSZ.out (n - 1) _ W3 _ (Nat.le_trans hn1 (Nat.le_trans hba.size hb3.1.size)) (Nat.le_trans hD1 (Nat.le_trans hba.size hb3.1.size)) (HK0.out.trans HB3.out) HZ.out hJ3
       (by have := HLE.out; rw [← namesL_length]; simp only [List.length_append, List.length_cons, List.length_nil] at this ⊢; omega)
      clear hb3 hba hbx g0 g1 g2 g3 g4 g5 g6 hkp hJs
      gi_wp2_with ((try refine ⟨hdd _, ?_⟩); gi_at_call 70; refine ih1.mono ?_; clear ih1; rintro e W4 (⟨rfl, hJ4, hb4⟩ | ⟨rfl, q, hq, hx4⟩))
      ·go_roundw
       case rel => exact ⟨k + 1, hl, by go_num, by rw [HT.out]; simpa [List.append_assoc] using hJ4, HB3.out.trans hb4⟩
       case measure => simp [intOf]; omega
      ·go_ret
       refine Or.inr ⟨rfl, namesL (L.take k) ++ (nm z.name :: q), HPX.out _ ?_, by simpa [List.append_assoc] using hx4⟩;obtain ⟨r, hr⟩ := hq;exact ⟨r, by simp [← hr]⟩
     ·gi_wp2
      go_ret
      exact Or.inr ⟨rfl, namesL (L.take k) ++ [nm z.name], HPX.out _ ⟨namesL z.args, rfl⟩, by simpa [List.append_assoc] using hx3⟩
    ·have hkb : (z.kind == 1) = false := by simp [hk1]
     rw [if_neg hk1, List.nil_append] at HT HLE HPX;clear hk1;obtain ⟨c0, c1, c2, c3, c4, c5, c6⟩ := hbx.cells;have ih1 := IH.out z.args HSZ.out (n - 1) _ _ _ (Nat.le_trans hn1 hba.size) (Nat.le_trans hD1 hba.size) (HK0.out.trans HKA.out) HZ.out hJa (by have := HLE.out; rw [← namesL_length]; simp only [List.length_append] at this ⊢; omega);clear hba hbx hkp hJs hJa c0 c1 c2 c3 c4 c5 c6
     gi_wp2
     refine ⟨fun _ h => (by cases h), ?_⟩
     gi_wp2_with ((try refine ⟨hdd _, ?_⟩); gi_at_call 70; refine ih1.mono ?_; clear ih1; rintro e W4 (⟨rfl, hJ4, hb4⟩ | ⟨rfl, q, hq, hx4⟩))
     ·go_roundw
      case rel => exact ⟨k + 1, hl, by go_num, by rw [HT.out]; simpa [List.append_assoc] using hJ4, HKA.out.trans hb4⟩
      case measure => simp [intOf]; omega
     ·go_ret
      exact Or.inr ⟨rfl, namesL (L.take k) ++ q, HPX.out _ hq, by simpa [List.append_assoc] using hx4⟩
   ·obtain rfl : k = L.length := by omega
    rw [List.take_length] at hJs
    gi_wp2
    go_ret
    exact Or.inl ⟨rfl, hJs, hkp.out⟩
end Go.Proofs.YtjohcnhiblfbnaaGreat
namespace Go.Proofs.YtjohcnhiblfbnaaGreat
open Go.RowKit Go.Maps
def inB (l : List ByteArray) (s : ByteArray) : Bool := l.any fun x => x.data.toList == s.data.toList
theorem inB_iff {l : List ByteArray} {s : ByteArray} : inB l s = true ↔ s ∈ l := by
 rw [inB, List.any_eq_true]
 constructor
 ·rintro ⟨x, hx, he⟩
  have : x = s := ByteArray.ext (Array.toList_inj.1 (by simpa using he))
  rwa [← this]
 ·intro h
  exact ⟨s, h, by simp⟩
theorem keyName : Keyed Tryz.prog 9 := string_keyed Tryz.underlying9
theorem zeroUnit (w : World) : (zeroValue 114).run Tryz.prog w = .ok (.agg #[]) w := by kernel_rfl
def setD (l : List ByteArray) : DataW Unit := setOf (.agg []) (l.map fun s => Lit.string s.data.toList)
def SetAt (w : World) (b n : Nat) (l : List ByteArray) : Prop := w.ownsMap Tryz.prog 9 (unitElem (H := Unit)) b n (setD l) ∧ ∀ s ∈ l, s.size ≤ maxLen
theorem SetAt.lt {w : World} {b n : Nat} {l : List ByteArray} (h : SetAt w b n l) : b < w.heap.size := h.1.lt
theorem SetAt.mono {w : World} {b n m : Nat} {l : List ByteArray} (h : SetAt w b n l) (hn : n ≤ m) : SetAt w b m l := ⟨h.1.mono hn, h.2⟩
theorem SetAt.grown {w w' : World} {b n : Nat} {l : List ByteArray} (h : SetAt w b n l) {row : Option Nat} (hg : w.grownBy w' row) (hne : some b ≠ row) : SetAt w' b n l := ⟨h.1.kept hg hne, h.2⟩
theorem grown_of_below {w w' : World} (h : Below w.heap.size w w') : w.grownBy w' none := ⟨h.os, h.tape, h.output, h.size, fun k hk _ => h.block k hk⟩
theorem SetAt.on {w w' : World} {b n : Nat} {l : List ByteArray} (h : SetAt w b n l) (hg : Below w.heap.size w w') : SetAt w' b n l := h.grown (grown_of_below hg) (by simp)
theorem setAt_new (w : World) : SetAt (w.alloc (.map #[] 0)) w.heap.size 0 [] := ⟨World.ownsMap_made _ _ _ _, fun _ h => by cases h⟩
theorem keyOf_name {s : ByteArray} (hs : s.size ≤ maxLen) : keyOf Tryz.prog 9 (.string s) = some (.string s.data.toList) := WideMaps.keyOf_string_mk Tryz.underlying9 hs
theorem has_setD {l : List ByteArray} (hl : ∀ s ∈ l, s.size ≤ maxLen) (s : ByteArray) : Maps.has (setD l) (.string s.data.toList) = inB l s := by
 rw [setD, has_setOf]
 ·rw [List.any_map, inB]
  rfl
 ·intro x hx
  obtain ⟨s, hs, rfl⟩ := List.mem_map.1 hx;exact keyName.key (keyOf_name (hl s hs))
set_option maxRecDepth 100000 in
theorem has_any (b n : Nat) (l : List ByteArray) (s : ByteArray) (w : World) (hs : s.size ≤ maxLen) (h : SetAt w b n l) :
  Calls Tryz.prog 42 #[.map (some b), .string s] w fun e w' => e = .returned (.bool (inB l s)) ∧ Below w.heap.size w w' := by
 have hown := h.1;have hkey := keyOf_name hs;have HH := Lib.hid (has_setD h.2 s);clear h hs;go_enter Tryz.func42, Tryz.ntmps42
 go_wp2_with (first
  | (at_lookup; refine wpList_lookup_own_unit _ rfl _ _ 84 rfl 9 114 keyName Tryz.underlying84 (zeroUnit _) b n _ rfl hown _ _ rfl hkey ?_; rw [HH.out])
  | fail)
 go_ret
 exact ⟨rfl, (Below.refl _ _).alloc (Nat.le_refl _) _⟩
set_option maxRecDepth 100000 in
theorem add_any (b n : Nat) (l : List ByteArray) (s : ByteArray) (w : World) (hn : n < maxLen) (hs : s.size ≤ maxLen) (h : SetAt w b n l) :
  Calls Tryz.prog 43 #[.map (some b), .string s] w fun e w' => e = .returned (.tuple #[]) ∧ SetAt w' b (n + 1) (l ++ [s]) ∧ w.grownBy w' (some b) := by
 have hown := h.1;have hkey := keyOf_name hs
 have HL : Hid (∀ x ∈ l ++ [s], x.size ≤ maxLen) := by
  intro x hx;rcases List.mem_append.1 hx with hx | hx
  ·exact h.2 x hx
  ·rw [List.mem_singleton.1 hx]; exact hs
 clear h hs;go_enter Tryz.func43, Tryz.ntmps43
 go_wp2_with (first
  | (at_mapUpdate; refine wpList_mapUpdate_own _ rfl _ _ _ 84 rfl 9 114 keyName Tryz.underlying84 (unitElem (H := Unit)) b n _ rfl hown hn _ _ _ rfl rfl hkey _ [] unitElem_mk ?_; intro w1 hown1 hgrow1)
  | fail)
 go_end0
 exact ⟨rfl, ⟨by rw [setD, List.map_append, List.map_cons, List.map_nil, setOf_snoc]; exact hown1, HL.out⟩, hgrow1⟩
end Go.Proofs.YtjohcnhiblfbnaaGreat
namespace Go.Proofs.YtjohcnhiblfbnaaGreat
open Go.RowKit Go.Shelf
attribute [local go_sem] Oper.semAt_some
set_option maxRecDepth 100000 in
set_option maxHeartbeats 1000000 in
theorem vars1_in (F : Fence) (hd : F.depth = none) (n : Nat) (h49 : F.fn 69) (h50 : F.fn 70) (hro : F.round = none) (l Bt n₀ D : Nat) (W0 : World) (L : List Tm) (v : Value) (J Jx : List Nm → World → Prop) (hJ : ∀ s W o, J s W → J s (W.alloc o))
  (hY : ∀ pre x W, J pre W → pre.length < (namesL L).length → YieldAt F (n - 1) Tryz.prog l #[.string x.1] W fun e W' =>
   (e = .returned (.bool true) ∧ J (pre ++ [x]) W' ∧ KpD n₀ D W W') ∨ (e = .returned (.bool false) ∧ Jx (pre ++ [x]) W'))
  (W : World) (hn0 : n₀ ≤ W.heap.size) (hD : D ≤ W.heap.size) (hBt : W.cell? ⟨Bt, 0, none⟩ = some v) (hk0 : KpD n₀ D W0 W) (hrep : RepMs (SK n₀ D W0) W0 L v) (h0 : J [] W) :
  CallsIn F n Tryz.prog 69 #[.func (.yield l) #[] #[], .pointer (some ⟨Bt, 0, none⟩)] W fun e W' => (∃ v, e = .returned v) ∧
   ((∃ ys, ys = namesL L ∧ J ys W') ∨ (∃ pre, pre <+: namesL L ∧ Jx pre W')) := by
 have hdd : ∀ k : Nat, (F.depth.isSome = true → 1 ≤ k) := fun k h => by rw [hd] at h; cases h
 have hp := walk_inside F hd h50 hro l n₀ D (namesL L).length W0 J Jx hJ (fun m pre x W hj hl => yieldAt_anyDepth hd m (hY pre x W hj hl)) _ L (Nat.lt_succ_self _) (n - 1) [] W v hn0 hD hk0 hrep h0 (by rw [namesL_length]; simp);clear hY hJ h0 hrep hk0;refine callsIn_of_wp Tryz.func69 rfl h49 ?_ hro;simp only [Tryz.ntmps69, List.size_toArray, List.length_cons, List.length_nil, Nat.reduceAdd, Nat.reduceSub, Array.replicate_succ, Array.replicate_zero, List.push_toArray, List.append_toArray, List.nil_append, List.cons_append]
 gi_wp2_with ((try refine ⟨hdd _, ?_⟩); gi_at_call 70; refine hp.mono ?_; clear hp; rintro e W1 (⟨rfl, hJ1, _⟩ | ⟨rfl, q, hq, hx⟩))
 ·go_end0
  exact ⟨⟨_, rfl⟩, .inl ⟨_, rfl, by simpa using hJ1⟩⟩
 ·go_end0
  exact ⟨⟨_, rfl⟩, .inr ⟨q, hq, by simpa using hx⟩⟩
set_option maxHeartbeats 1000000 in
theorem variables_in (F : Fence) (n : Nat) (h32 : F.fn 41) (hro : F.round = none) (a : Option Addr) (len cap : Nat) (w : World) :
  CallsIn F n Tryz.prog 41 #[.slice a len cap] w fun e w' => e = .returned (.func (.func 69) #[] #[.pointer (some ⟨w.heap.size, 0, none⟩)]) ∧ w' = w.alloc (.cells #[.slice a len cap] 32) := by
 refine callsIn_of_wp Tryz.func41 rfl h32 ?_ hro;simp only [Tryz.ntmps41, List.size_toArray, List.length_cons, List.length_nil, Nat.reduceAdd, Nat.reduceSub, Array.replicate_succ, Array.replicate_zero, List.push_toArray, List.append_toArray, List.nil_append, List.cons_append]
 gi_wp2
 go_ret
 exact ⟨rfl, rfl⟩
theorem vars_stops (F : Fence) (hd : F.depth = none) (n : Nat) (h49 : F.fn 69) (h50 : F.fn 70) (hro : F.round = none) (Bt n₀ D : Nat) (L : List Tm) (v : Value) (w : World) (hBt : Bt < w.heap.size) (hn0 : n₀ ≤ w.heap.size) (hD : D ≤ w.heap.size)
  (hc : w.cell? ⟨Bt, 0, none⟩ = some v) (hrep : RepMs (SK n₀ D w) w L v) :
  SeqStopsK F n Tryz.prog 69 #[.pointer (some ⟨Bt, 0, none⟩)] (fun x : Nm => #[Value.string x.1]) (KpD n₀ D) (fun ys => ys = namesL L) (fun pre => pre <+: namesL L) (namesL L).length w := fun l J Jx W hW hAJ _ hY h0 =>
 vars1_in F hd n h49 h50 hro l Bt n₀ D w L v J Jx (fun s W o hj => hAJ s W _ none hj (World.grownBy_alloc W o none) (fun r e => by cases e)) hY W (Nat.le_trans hn0 hW.size) (Nat.le_trans hD hW.size) ((hW.cell (p := ⟨Bt, 0, none⟩) hBt).trans hc)
  ((KpD.refl n₀ D w).of_below hW hn0) hrep h0
theorem cell_of_box {W : World} {B : Nat} {v : Value} {t : TypeId} (h : W.heap[B]? = some (.cells #[v] t (0, 0))) : W.cell? ⟨B, 0, none⟩ = some v ∧ W.frozen? ⟨B, 0, none⟩ = false := by
 constructor <;> simp [World.cell?, World.frozen?, h]
theorem cell_new1 (W : World) (v : Value) (t : TypeId) : (W.alloc (.cells #[v] t)).cell? ⟨W.heap.size, 0, none⟩ = some v ∧ (W.alloc (.cells #[v] t)).frozen? ⟨W.heap.size, 0, none⟩ = false :=
 cell_of_box (World.alloc_heap_new W _)
theorem cell_alloc1 {W : World} {a : Addr} {v : Value} (o : Obj) (h : W.cell? a = some v) : (W.alloc o).cell? a = some v := cell_kept h (World.grownBy_alloc W o none) (fun r e => by cases e)
theorem frozen_alloc1 {W : World} {a : Addr} {v : Value} (o : Obj) (h : W.cell? a = some v) (hf : W.frozen? a = false) : (W.alloc o).frozen? a = false := (frozen_kept h (World.grownBy_alloc W o none) (fun r e => by cases e)).trans hf
end Go.Proofs.YtjohcnhiblfbnaaGreat
namespace Go.Proofs.YtjohcnhiblfbnaaGreat
open Go.RowKit Go.Shelf
attribute [local go_sem] Oper.semAt_some
theorem mem_names {S : Nat → Prop} {w : World} {L : List Tm} {v : Value} (h : RepMs S w L v) {s : ByteArray} (hs : s ∈ varsL L) : (⟨s, repM_name_le h s hs⟩ : Nm) ∈ namesL L :=
 List.mem_map.2 ⟨s, hs, by rw [nm, dif_pos (repM_name_le h s hs)]⟩
theorem of_mem_names {S : Nat → Prop} {w : World} {L : List Tm} {v : Value} (h : RepMs S w L v) {y : Nm} (hy : y ∈ namesL L) : y.1 ∈ varsL L := by
 obtain ⟨s, hs, rfl⟩ := List.mem_map.1 hy;rw [nm_of (repM_name_le h s hs)];exact hs
theorem all_names {S : Nat → Prop} {w : World} {L : List Tm} {v : Value} (h : RepMs S w L v) {l : List ByteArray} (ha : ∀ y ∈ namesL L, inB l y.1 = true) : (varsL L).all (inB l) = true :=
 List.all_eq_true.2 fun _s hs => ha _ (mem_names h hs)
theorem not_all_names {S : Nat → Prop} {w : World} {L : List Tm} {v : Value} (h : RepMs S w L v) {l : List ByteArray} {pre : List Nm} (hp : pre <+: namesL L) (ha : ∃ y ∈ pre, inB l y.1 = false) : (varsL L).all (inB l) = false := by
 obtain ⟨y, hy, he⟩ := ha;rw [List.all_eq_false];exact ⟨y.1, of_mem_names h (hp.subset hy), by rw [he]; decide⟩
set_option maxRecDepth 100000 in
set_option maxHeartbeats 2000000 in
theorem all_in (b n : Nat) (l : List ByteArray) (L : List Tm) (w : World) (a : Option Addr) (len cap : Nat) (hset : SetAt w b n l) (hrep : RepMs (fun k => k < w.heap.size) w L (.slice a len cap)) :
  CallsIn Fence.wide 3 Tryz.prog 64 #[.map (some b), .slice a len cap] w fun e W' => e = .returned (.bool ((varsL L).all (inB l))) ∧ Below w.heap.size w W' := by
 have h1 : 1 ≤ 3 := by omega
 refine callsIn_of_wp_marks Tryz.func64 rfl trivial ?_ rfl;simp only [Tryz.ntmps64, List.size_toArray, List.length_cons, List.length_nil, Nat.reduceAdd, Nat.reduceSub, Array.replicate_succ, Array.replicate_zero, List.push_toArray, List.append_toArray, List.nil_append, List.cons_append]
 gi_wp2_with ((try refine ⟨trivial, ?_⟩); gi_at_call 41; refine (variables_in Fence.wide _ trivial rfl _ _ _ _).mono ?_; rintro e w' ⟨rfl, rfl⟩)
 have c0 := cell_new1 w (.map (some b)) 84;have c1 := cell_new1 (w.alloc (.cells #[.map (some b)] 84)) (.bool false) 4;have c2 := cell_new1 ((w.alloc (.cells #[.map (some b)] 84)).alloc (.cells #[.bool false] 4)) (.slice a len cap) 32;simp only [World.size_alloc] at c1 c2
 have hB0 : Below w.heap.size w (((w.alloc (.cells #[.map (some b)] 84)).alloc (.cells #[.bool false] 4)).alloc (.cells #[.slice a len cap] 32)) := (((Below.refl _ w).alloc (Nat.le_refl _) _).alloc (by simp) _).alloc (by simp; omega) _;have d0 := (cell_alloc1 (.cells #[.slice a len cap] 32) (cell_alloc1 (.cells #[.bool false] 4) c0.1));have d1 := cell_alloc1 (.cells #[.slice a len cap] 32) c1.1;have d1f := frozen_alloc1 (.cells #[.slice a len cap] 32) c1.1 c1.2;have hsz : (((w.alloc (.cells #[.map (some b)] 84)).alloc (.cells #[.bool false] 4)).alloc (.cells #[.slice a len cap] 32)).heap.size = w.heap.size + 3 := by simp
 have c2c := c2.1;clear c0 c1 c2;generalize (((w.alloc (.cells #[.map (some b)] 84)).alloc (.cells #[.bool false] 4)).alloc (.cells #[.slice a len cap] 32)) = W3 at *
 refine wpIn_rangeFunc_ownG (F := Fence.wide) (n := 3) rfl h1 (gf := 69) (lb := #[.pointer (some ⟨w.heap.size + 1 + 1, 0, none⟩)]) rfl trivial (enters_of Tryz.func69 (by kernel_rfl) rfl)
  (vars_stops Fence.wide rfl 2 trivial trivial rfl (w.heap.size + 1 + 1) w.heap.size W3.heap.size L _ W3 (by omega) hB0.size (Nat.le_refl _) c2c (RepMs.on (S' := SK w.heap.size W3.heap.size W3) (fun _ h => .inl h) (fun k hk => hB0.block k hk) hrep)) KpD.trans (fun W l o o' hl hW ho _ => KpD.putObj W l o o' (by omega) hW ho) (Below.refl _ _) (fun _ => by rfl)
  (fun pre W => ((∀ y ∈ pre, inB l y.1 = true) ∧ W.cell? ⟨w.heap.size, 0, none⟩ = some (.map (some b)) ∧ W.cell? ⟨w.heap.size + 1, 0, none⟩ = some (.bool false) ∧ W.frozen? ⟨w.heap.size + 1, 0, none⟩ = false) ∧ Below w.heap.size w W)
  (fun c pre W => (c = .ret ∧ (∃ y ∈ pre, inB l y.1 = false) ∧ W.cell? ⟨w.heap.size + 1, 0, none⟩ = some (.bool false)) ∧ Below w.heap.size w W)
  (OwnFrom.and (Own.from (fun s A B row hs hg hr => ⟨hs.1, cell_kept hs.2.1 hg hr, cell_kept hs.2.2.1 hg hr, (frozen_kept hs.2.2.1 hg hr).trans hs.2.2.2⟩) _) (ownFrom_below (Nat.le_refl _) (by omega)))
  (fun c => OwnFrom.and (Own.from (fun s A B row hs hg hr => ⟨hs.1, hs.2.1, cell_kept hs.2.2 hg hr⟩) _) (ownFrom_below (Nat.le_refl _) (by omega)))
  ⟨⟨by simp, d0, d1, d1f⟩, hB0⟩
  (fun x => { tmps := #[.map (some b), .slice a len cap, .pointer (some ⟨w.heap.size, 0, none⟩), undef, .pointer (some ⟨w.heap.size + 1, 0, none⟩), .string x.1, .slice a len cap, .func (.func 69) #[] #[.pointer (some ⟨w.heap.size + 1 + 1, 0, none⟩)], .string x.1, undef, undef, undef, undef], defers := [] }) ?assign ?body ?done ?stop
 case assign =>
  intro l x W K hK
  gi_wp2
  exact hK
 case body =>
  rintro l2 pre x W ⟨⟨hp, hcw, hcr, hfr⟩, hB⟩ _;have HP := Lib.hid hp;have hh := has_any b n l x.1 W x.2 (hset.on hB);clear hp;obtain ⟨t, ht⟩ : ∃ t, inB l x.1 = t := ⟨_, rfl⟩;rw [ht] at hh;have HT := Lib.hid ht;clear ht;have HCW := Lib.hid hcw; have HCR := Lib.hid hcr; have HFR := Lib.hid hfr
  clear hcr hfr
  cases t with
  | true =>
   gi_wp2_with ((try refine ⟨trivial, ?_⟩); gi_at_call 42; refine (CallsIn.inRound l2 (callsIn_wide.2 hh)).mono ?_; clear hh; rintro e W' ⟨rfl, hb⟩)
   have hg := grown_of_below hb;have hrow : ∀ r, (none : Option Nat) = some r → ∃ o : Obj, W.heap[r]? = some o ∧ o.isCells = false := fun r e => by cases e
   refine ⟨KeepsFrom.of_grownBy hg (fun j e => by cases e), (KpD.refl _ _ _).of_below hb hB.size, ⟨?_, cell_kept HCW.out hg hrow, cell_kept HCR.out hg hrow, (frozen_kept HCR.out hg hrow).trans HFR.out⟩, hB.trans (hb.mono hB.size)⟩;intro y hy;rcases List.mem_append.1 hy with hy | hy
   ·exact HP.out y hy
   ·rw [List.mem_singleton.1 hy]; exact HT.out
  | false =>
   gi_wp2_with ((try refine ⟨trivial, ?_⟩); gi_at_call 42; refine (CallsIn.inRound l2 (callsIn_wide.2 hh)).mono ?_; clear hh; rintro e W' ⟨rfl, hb⟩; have hcr := cell_kept HCR.out (grown_of_below hb) (fun r e => by cases e); have hfr := (frozen_kept HCR.out (grown_of_below hb) (fun r e => by cases e)).trans HFR.out)
   exact ⟨(KeepsFrom.of_grownBy (grown_of_below hb) (fun j e => by cases e)).trans ((KeepsOthers.setCell _ _ _).from _), ⟨rfl, ⟨x, List.mem_append.2 (.inr (by simp)), HT.out⟩, World.cell?_setCell_same' _ _ _ (by rw [hcr]; rfl)⟩,
    (hB.trans (hb.mono hB.size)).setCell (p := ⟨w.heap.size + 1, 0, none⟩) (by simp) _⟩
 case done =>
  rintro D ys W hD rfl ⟨⟨hall, _, hcr, hfr⟩, hB⟩ hK
  gi_wp2
  have hK' := (KeepsOthers.setCell W ⟨w.heap.size + 1, 0, none⟩ (.bool true)).same D _ hK rfl;refine ⟨by simp, .inl ⟨_, _, rfl, run_takeDeferred hK', ?_⟩⟩;have hc5 := cell_kept (World.cell?_setCell_same' W ⟨w.heap.size + 1, 0, none⟩ (.bool true) (by rw [hcr]; rfl)) (grownBy_putObj' _ D (.deferred none)) (fun r e => by cases e; exact ⟨_, hK', rfl⟩);refine ⟨.bool true, ?_, ?_, (hB.setCell (p := ⟨w.heap.size + 1, 0, none⟩) (by simp) _).trans (belowK_b (w := w) (Nat.le_refl _) _ D _ _ (by omega) hK' rfl rfl)⟩
  ·simp [results, Tryz.f64, go_sem, hc5]
  ·rw [all_names hrep hall]
 case stop =>
  rintro D c pre W hD hpre ⟨⟨rfl, hin, hcr⟩, hB⟩ hK
  gi_wp2
  refine ⟨by simp, .inl ⟨_, _, rfl, run_takeDeferred hK, ?_⟩⟩;have hc5 := cell_kept hcr (grownBy_putObj' _ D (.deferred none)) (fun r e => by cases e; exact ⟨_, hK, rfl⟩);refine ⟨.bool false, ?_, ?_, hB.trans (belowK_b (w := w) (Nat.le_refl _) W D _ _ (by omega) hK rfl rfl)⟩
  ·simp [results, Tryz.f64, go_sem, hc5]
  ·rw [not_all_names hrep hpre hin]
theorem all_any (b n : Nat) (l : List ByteArray) (L : List Tm) (S : Nat → Prop) (w : World) (v : Value) (hS : ∀ k, S k → k < w.heap.size) (hset : SetAt w b n l) (hrep : RepMs S w L v) :
  Calls Tryz.prog 64 #[.map (some b), v] w fun e W' => e = .returned (.bool ((varsL L).all (inB l))) ∧ Below w.heap.size w W' := by
 obtain ⟨a, cap, rfl⟩ := SlG.form hrep;exact callsIn_wide.1 (all_in b n l L w a _ cap hset (RepMs.on hS (fun _ _ => rfl) hrep))
end Go.Proofs.YtjohcnhiblfbnaaGreat
