/-
  ScWalk, ScNames, ScSeq
-/
import Derived.Test.YtjmnnjikmmglpaaKC25
import Derived.Test.YtjmnnjikmmglpaaKC10
import Derived.Test.YtjmnnjikmmglpaaProg
import Derived.Test.YtjmnnjikmmglpaaKC01
import Derived.RangeFuncKeeps
import Derived.RangeFuncBound
import Derived.RangeFuncLeaves
import Derived.Shelf.Abstract
import Derived.WalkKit
import Derived.OwnWalkIn
import Derived.TacticsInMore
import Derived.LoopNIn
import Derived.LoopIn
import Derived.Lib.Hide
import Derived.StringKeys
import Derived.Maps.OwnSet
import Derived.RangeFuncWrites
namespace Go.Proofs.Ytjmnnjikmmglpaa
open Go.RowKit Go.Shelf
attribute [local go_sem] Oper.semAt_some
def keptB : Obj → Bool
 | .cells _ t _ => t != 9
 | _ => false
def KpD (n₀ D : Nat) (W W' : World) : Prop := Below n₀ W W' ∧ ∀ k o, D ≤ k → W.heap[k]? = some o → keptB o = true → W'.heap[k]? = some o
theorem KpD.refl (n₀ D : Nat) (W : World) : KpD n₀ D W W := ⟨Below.refl _ _, fun _ _ _ h _ => h⟩
theorem KpD.trans {n₀ D : Nat} {A B C : World} (h : KpD n₀ D A B) (k : KpD n₀ D B C) : KpD n₀ D A C := ⟨h.1.trans k.1, fun i o hi ho hc => k.2 i o hi (h.2 i o hi ho hc) hc⟩
theorem KpD.of_below {n₀ D : Nat} {A B C : World} (h : KpD n₀ D A B) (k : Below B.heap.size B C) (hn : n₀ ≤ B.heap.size) : KpD n₀ D A C :=
 h.trans ⟨k.mono hn, fun i _ _ ho _ => (k.block i (Array.getElem?_eq_some_iff.1 ho).1).trans ho⟩
def SK (n₀ D : Nat) (W0 : World) (k : Nat) : Prop := k < n₀ ∨ (D ≤ k ∧ ∃ o, W0.heap[k]? = some o ∧ keptB o = true)
theorem KpD.same {n₀ D : Nat} {W0 W : World} (h : KpD n₀ D W0 W) (k : Nat) (hk : SK n₀ D W0 k) : W.heap[k]? = W0.heap[k]? := by
 rcases hk with hk | ⟨hk, o, ho, hc⟩
 ·exact h.1.block k hk
 ·rw [ho]; exact h.2 k o hk ho hc
theorem KpD.putObj {n₀ D : Nat} (W : World) (l : Nat) (o o' : Obj) (hl : n₀ ≤ l) (hW : W.heap[l]? = some o) (ho : o.isCells = false) : KpD n₀ D W (W.putObj l o') := by
 have hg := grownBy_putObj' W l o';refine ⟨⟨hg.os, hg.tape, hg.output, hg.size, fun k hk => World.putObj_heap_other (by omega)⟩, fun k ok _ hk hc => ?_⟩
 by_cases e : k = l
 ·subst e
  rw [hW] at hk
  cases hk
  cases o <;> first | (cases ho; done) | (cases hc; done) | (simp [Obj.isCells] at ho)
 ·exact (World.putObj_heap_other (fun h => e h)).trans hk
theorem BoxM.kp {w w' : World} {k n₀ D : Nat} {c0 c1 c2 c3 c4 c5 c6 : Value} (h : BoxM w k c0 c1 c2 c3 c4 c5 c6) (hk : KpD n₀ D w w') (hD : D ≤ k) : BoxM w' k c0 c1 c2 c3 c4 c5 c6 := hk.2 k _ hD h rfl
theorem room_of_none {F : Fence} (hd : F.depth = none) (k : Nat) : F.room k := fun d h => by rw [hd] at h; cases h
theorem roundIn_anyDepth {F : Fence} (hd : F.depth = none) {m m' : Nat} {P : Program} {l : Nat} {f : FuncId} {tmps : Array Value} {assign body : Code} {w : World} {R : Ending → World → Prop}
  (h : RoundIn F m P l f tmps assign body w R) : RoundIn F m' P l f tmps assign body w R := ⟨h.1, fun c cs _ => h.2 c cs (room_of_none hd _)⟩
theorem yieldAt_anyDepth {F : Fence} (hd : F.depth = none) {m : Nat} (m' : Nat) {P : Program} {l : Nat} {args : Array Value} {W : World} {R : Ending → World → Prop} (h : YieldAt F m P l args W R) : YieldAt F m' P l args W R := by
 obtain ⟨fn, tmps, assign, body, hy, hR⟩ := h;exact ⟨fn, tmps, assign, body, hy, roundIn_anyDepth hd hR⟩
def WalkPost (n₀ D : Nat) (J Jx : List Nm → World → Prop) (pre xs : List Nm) (W : World) (e : Ending) (W' : World) : Prop :=
 (e = .returned (.bool true) ∧ J (pre ++ xs) W' ∧ KpD n₀ D W W') ∨ (e = .returned (.bool false) ∧ ∃ q, q <+: xs ∧ Jx (pre ++ q) W')
set_option maxRecDepth 100000 in
set_option maxHeartbeats 4000000 in
theorem walk_inside (F : Fence) (hd : F.depth = none) (h50 : F.fn 61) (hro : F.round = none) (l n₀ D N : Nat) (W0 : World) (J Jx : List Nm → World → Prop) (hJ : ∀ s W o, J s W → J s (W.alloc o))
  (hY : ∀ m pre x W, J pre W → pre.length < N → YieldAt F m Try.prog l #[.string x.1] W fun e W' =>
   (e = .returned (.bool true) ∧ J (pre ++ [x]) W' ∧ KpD n₀ D W W') ∨ (e = .returned (.bool false) ∧ Jx (pre ++ [x]) W')) :
  ∀ (d : Nat) (L : List Tm), SizeOf.sizeOf L < d → ∀ (n : Nat) (pre : List Nm) (W : World) (v : Value), n₀ ≤ W.heap.size → D ≤ W.heap.size → KpD n₀ D W0 W → RepMs (SK n₀ D W0) W0 L v → J pre W → pre.length + (varsL L).length ≤ N →
   CallsIn F n Try.prog 61 #[v, .func (.yield l) #[] #[]] W (WalkPost n₀ D J Jx pre (namesL L) W) := by
 intro d
 induction d with
 | zero => intro L hL; omega
 | succ d ih =>
  intro L hL n pre W v hn0 hD hk0 hrep hJ0 hN;have hdd : ∀ k : Nat, (F.depth.isSome = true → 1 ≤ k) := fun k h => by rw [hd] at h; cases h
  obtain ⟨a, cap, rfl⟩ := SlG.form hrep;have hlb := SlG.bytes hrep;have HA := Lib.hid hrep; have IH := Lib.hid ih; have HLd := Lib.hid hL; have HNm := Lib.hid (repM_name_le hrep)
  have HK0 := Lib.hid hk0; have HNN := Lib.hid hN; have HY := Lib.hid hY; have HJ := Lib.hid hJ
  clear hrep ih hL hN hY hJ hk0;refine callsIn_of_wp Try.func61 rfl h50 ?_ hro;simp only [Try.ntmps61, List.size_toArray, List.length_cons, List.length_nil, Nat.reduceAdd, Nat.reduceSub, Array.replicate_succ, Array.replicate_zero, List.push_toArray, List.append_toArray, List.nil_append, List.cons_append]
  gi_wp2
  gi_loopw [9] (fun i wr => ∃ k : Nat, k ≤ L.length ∧ i = .int .i64 k ∧ J (pre ++ namesL (L.take k)) wr ∧ Hid (KpD n₀ D W wr)) (fun i _ => L.length - (intOf i).toNat)
  case atStart => exact ⟨0, Nat.zero_le _, rfl, by simpa [namesL, varsL] using hJ0, KpD.refl _ _ _⟩
  case round =>
   obtain ⟨k, hk, rfl, hJs, hkp⟩ := hrel;have hn1 : n₀ ≤ wr.heap.size := Nat.le_trans hn0 hkp.out.1.size;have hD1 : D ≤ wr.heap.size := Nat.le_trans hD hkp.out.1.size
   by_cases hl : k < L.length
   ·obtain ⟨-, -, b, o, fa, fc, ga, gc, rfl, hSb, g0, g1, g2, g3, g4, g5, g6, g⟩ := RepMs.at HA.out k hl
    have hbk := (HK0.out.trans hkp.out).same b hSb;replace g0 := (World.cell?_of_block (w := W0) hbk).trans g0;replace g1 := (World.cell?_of_block (w := W0) hbk).trans g1;replace g2 := (World.cell?_of_block (w := W0) hbk).trans g2;replace g3 := (World.cell?_of_block (w := W0) hbk).trans g3;replace g4 := (World.cell?_of_block (w := W0) hbk).trans g4;replace g5 := (World.cell?_of_block (w := W0) hbk).trans g5;replace g6 := (World.cell?_of_block (w := W0) hbk).trans g6;have G := Lib.hid g;have HT := Lib.hid (namesL_take L hl)
    have HLE : Hid ((pre ++ namesL (L.take k)).length + ((if L[k].kind = 1 then [nm L[k].name] else []) ++ namesL L[k].args).length ≤ N) := by
     show _ ≤ _
     have h1 := namesL_take_le L (k + 1);rw [HT.out] at h1;have := HNN.out;simp only [List.length_append] at h1 ⊢
     omega
    have HSZ : Hid (SizeOf.sizeOf L[k].args < d) := by
     show _ < _
     have h1 := List.sizeOf_lt_of_mem (List.getElem_mem hl)
     have h2 : SizeOf.sizeOf L[k].args < SizeOf.sizeOf L[k] := by
      cases L[k]
      simp only [Tm.args, Tm.mk.sizeOf_spec]
      omega
     have := HLd.out;omega
    have HNZ := Lib.hid (RepM.bounds g).2
    have HPX : Hid (∀ q, q <+: ((if L[k].kind = 1 then [nm L[k].name] else []) ++ namesL L[k].args) → namesL (L.take k) ++ q <+: namesL L) := by
     intro q hq;obtain ⟨r, hr⟩ := hq;obtain ⟨s, hs⟩ := namesL_prefix L (k + 1);exact ⟨r ++ s, by rw [← hs, HT.out, ← hr]; simp⟩
    clear g hbk hSb;generalize L[k] = z at *;have hJa := HJ.out _ wr (.cells #[.int .i64 z.kind, .string z.name, .int .i64 z.val.kind, .int .i64 z.val.num, .string z.val.text, .slice fa z.val.list.length fc, .slice ga z.args.length gc] 30) hJs;have hba := below_alloc wr (.cells #[.int .i64 z.kind, .string z.name, .int .i64 z.val.kind, .int .i64 z.val.num, .string z.val.text, .slice fa z.val.list.length fc, .slice ga z.args.length gc] 30);have hbx := boxM_new wr (.int .i64 z.kind) (.string z.name) (.int .i64 z.val.kind) (.int .i64 z.val.num) (.string z.val.text) (.slice fa z.val.list.length fc) (.slice ga z.args.length gc);have HKA := Lib.hid (hkp.out.of_below hba hn1);have HZ := Lib.hid (RepM.lst G.out)
    by_cases hk1 : z.kind = 1
    ·have hkb : (z.kind == 1) = true := by simp [hk1]
     rw [if_pos hk1] at HT HLE HPX;obtain ⟨fn, tmps, assign, body, hy, hR⟩ := HY.out (n - 1) _ (nm z.name) _ hJa (by have := HLE.out; simp only [List.length_append, List.length_cons, List.length_nil] at this ⊢; omega);rw [nm_of HNZ.out] at hy;clear hk1 hJa
     gi_wp2
     refine hR.mono ?_;clear hR hy;rintro e W3 (⟨rfl, hJ3, hb3⟩ | ⟨rfl, hx3⟩)
     ·have HB3 := Lib.hid (HKA.out.trans hb3)
      obtain ⟨c0, c1, c2, c3, c4, c5, c6⟩ := (hbx.kp hb3 hD1).cells
      have ih1 := IH.out z.args HSZ.out (n - 1) _ W3 _ (Nat.le_trans hn1 (Nat.le_trans hba.size hb3.1.size)) (Nat.le_trans hD1 (Nat.le_trans hba.size hb3.1.size)) (HK0.out.trans HB3.out) HZ.out hJ3
       (by have := HLE.out; rw [← namesL_length]; simp only [List.length_append, List.length_cons, List.length_nil] at this ⊢; omega)
      clear hb3 hba hbx g0 g1 g2 g3 g4 g5 g6 hkp hJs
      gi_wp2_with ((try refine ⟨hdd _, ?_⟩); gi_at_call 61; refine ih1.mono ?_; clear ih1; rintro e W4 (⟨rfl, hJ4, hb4⟩ | ⟨rfl, q, hq, hx4⟩))
      ·go_roundw
       case rel => exact ⟨k + 1, hl, by go_num, by rw [HT.out]; simpa [List.append_assoc] using hJ4, HB3.out.trans hb4⟩
       case measure => simp [intOf]; omega
      ·go_ret
       refine Or.inr ⟨rfl, namesL (L.take k) ++ (nm z.name :: q), HPX.out _ ?_, by simpa [List.append_assoc] using hx4⟩;obtain ⟨r, hr⟩ := hq;exact ⟨r, by simp [← hr]⟩
     ·gi_wp2
      go_ret
      exact Or.inr ⟨rfl, namesL (L.take k) ++ [nm z.name], HPX.out _ ⟨namesL z.args, rfl⟩, by simpa [List.append_assoc] using hx3⟩
    ·have hkb : (z.kind == 1) = false := by simp [hk1]
     rw [if_neg hk1, List.nil_append] at HT HLE HPX;clear hk1;obtain ⟨c0, c1, c2, c3, c4, c5, c6⟩ := hbx.cells;have ih1 := IH.out z.args HSZ.out (n - 1) _ _ _ (Nat.le_trans hn1 hba.size) (Nat.le_trans hD1 hba.size) (HK0.out.trans HKA.out) HZ.out hJa (by have := HLE.out; rw [← namesL_length]; simp only [List.length_append] at this ⊢; omega);clear hba hbx hkp hJs hJa c0 c1 c2 c3 c4 c5 c6
     gi_wp2
     refine ⟨fun _ h => (by cases h), ?_⟩
     gi_wp2_with ((try refine ⟨hdd _, ?_⟩); gi_at_call 61; refine ih1.mono ?_; clear ih1; rintro e W4 (⟨rfl, hJ4, hb4⟩ | ⟨rfl, q, hq, hx4⟩))
     ·go_roundw
      case rel => exact ⟨k + 1, hl, by go_num, by rw [HT.out]; simpa [List.append_assoc] using hJ4, HKA.out.trans hb4⟩
      case measure => simp [intOf]; omega
     ·go_ret
      exact Or.inr ⟨rfl, namesL (L.take k) ++ q, HPX.out _ hq, by simpa [List.append_assoc] using hx4⟩
   ·obtain rfl : k = L.length := by omega
    rw [List.take_length] at hJs
    gi_wp2
    go_ret
    exact Or.inl ⟨rfl, hJs, hkp.out⟩
end Go.Proofs.Ytjmnnjikmmglpaa
namespace Go.Proofs.Ytjmnnjikmmglpaa
open Go.RowKit Go.Maps
def inB (l : List ByteArray) (s : ByteArray) : Bool := l.any fun x => x.data.toList == s.data.toList
theorem inB_iff {l : List ByteArray} {s : ByteArray} : inB l s = true ↔ s ∈ l := by
 rw [inB, List.any_eq_true]
 constructor
 ·rintro ⟨x, hx, he⟩
  have : x = s := ByteArray.ext (Array.toList_inj.1 (by simpa using he))
  rwa [← this]
 ·intro h
  exact ⟨s, h, by simp⟩
theorem keyName : Keyed Try.prog 9 := string_keyed Try.underlying9
theorem zeroUnit (w : World) : (zeroValue 86).run Try.prog w = .ok (.agg #[]) w := by kernel_rfl
def setD (l : List ByteArray) : DataW Unit := setOf (.agg []) (l.map fun s => Lit.string s.data.toList)
def SetAt (w : World) (b n : Nat) (l : List ByteArray) : Prop := w.ownsMap Try.prog 9 (unitElem (H := Unit)) b n (setD l) ∧ ∀ s ∈ l, s.size ≤ maxLen
theorem SetAt.grown {w w' : World} {b n : Nat} {l : List ByteArray} (h : SetAt w b n l) {row : Option Nat} (hg : w.grownBy w' row) (hne : some b ≠ row) : SetAt w' b n l := ⟨h.1.kept hg hne, h.2⟩
theorem grown_of_below {w w' : World} (h : Below w.heap.size w w') : w.grownBy w' none := ⟨h.os, h.tape, h.output, h.size, fun k hk _ => h.block k hk⟩
theorem SetAt.on {w w' : World} {b n : Nat} {l : List ByteArray} (h : SetAt w b n l) (hg : Below w.heap.size w w') : SetAt w' b n l := h.grown (grown_of_below hg) (by simp)
theorem setAt_new (w : World) : SetAt (w.alloc (.map #[] 0)) w.heap.size 0 [] := ⟨World.ownsMap_made _ _ _ _, fun _ h => by cases h⟩
theorem keyOf_name {s : ByteArray} (hs : s.size ≤ maxLen) : keyOf Try.prog 9 (.string s) = some (.string s.data.toList) := WideMaps.keyOf_string_mk Try.underlying9 hs
theorem has_setD {l : List ByteArray} (hl : ∀ s ∈ l, s.size ≤ maxLen) (s : ByteArray) : Maps.has (setD l) (.string s.data.toList) = inB l s := by
 rw [setD, has_setOf]
 ·rw [List.any_map, inB]
  rfl
 ·intro x hx
  obtain ⟨s, hs, rfl⟩ := List.mem_map.1 hx;exact keyName.key (keyOf_name (hl s hs))
set_option maxRecDepth 100000 in
theorem has_any (b n : Nat) (l : List ByteArray) (s : ByteArray) (w : World) (hs : s.size ≤ maxLen) (h : SetAt w b n l) :
  Calls Try.prog 44 #[.map (some b), .string s] w fun e w' => e = .returned (.bool (inB l s)) ∧ Below w.heap.size w w' := by
 have hown := h.1;have hkey := keyOf_name hs;have HH := Lib.hid (has_setD h.2 s);clear h hs;go_enter Try.func44, Try.ntmps44
 go_wp2_with (first
  | (at_lookup; refine wpList_lookup_own_unit _ rfl _ _ 68 rfl 9 86 keyName Try.underlying68 (zeroUnit _) b n _ rfl hown _ _ rfl hkey ?_; rw [HH.out])
  | fail)
 go_ret
 exact ⟨rfl, (Below.refl _ _).alloc (Nat.le_refl _) _⟩
set_option maxRecDepth 100000 in
theorem add_any (b n : Nat) (l : List ByteArray) (s : ByteArray) (w : World) (hn : n < maxLen) (hs : s.size ≤ maxLen) (h : SetAt w b n l) :
  Calls Try.prog 45 #[.map (some b), .string s] w fun e w' => e = .returned (.tuple #[]) ∧ SetAt w' b (n + 1) (l ++ [s]) ∧ w.grownBy w' (some b) := by
 have hown := h.1;have hkey := keyOf_name hs
 have HL : Hid (∀ x ∈ l ++ [s], x.size ≤ maxLen) := by
  intro x hx;rcases List.mem_append.1 hx with hx | hx
  ·exact h.2 x hx
  ·rw [List.mem_singleton.1 hx]; exact hs
 clear h hs;go_enter Try.func45, Try.ntmps45
 go_wp2_with (first
  | (at_mapUpdate; refine wpList_mapUpdate_own _ rfl _ _ _ 68 rfl 9 86 keyName Try.underlying68 (unitElem (H := Unit)) b n _ rfl hown hn _ _ _ rfl rfl hkey _ [] unitElem_mk ?_; intro w1 hown1 hgrow1)
  | fail)
 go_end0
 exact ⟨rfl, ⟨by rw [setD, List.map_append, List.map_cons, List.map_nil, setOf_snoc]; exact hown1, HL.out⟩, hgrow1⟩
end Go.Proofs.Ytjmnnjikmmglpaa
namespace Go.Proofs.Ytjmnnjikmmglpaa
open Go.RowKit Go.Shelf
attribute [local go_sem] Oper.semAt_some
set_option maxRecDepth 100000 in
set_option maxHeartbeats 1000000 in
theorem vars1_in (F : Fence) (hd : F.depth = none) (n : Nat) (h49 : F.fn 60) (h50 : F.fn 61) (hro : F.round = none) (l Bt n₀ D : Nat) (W0 : World) (L : List Tm) (v : Value) (J Jx : List Nm → World → Prop) (hJ : ∀ s W o, J s W → J s (W.alloc o))
  (hY : ∀ pre x W, J pre W → pre.length < (namesL L).length → YieldAt F (n - 1) Try.prog l #[.string x.1] W fun e W' =>
   (e = .returned (.bool true) ∧ J (pre ++ [x]) W' ∧ KpD n₀ D W W') ∨ (e = .returned (.bool false) ∧ Jx (pre ++ [x]) W'))
  (W : World) (hn0 : n₀ ≤ W.heap.size) (hD : D ≤ W.heap.size) (hBt : W.cell? ⟨Bt, 0, none⟩ = some v) (hk0 : KpD n₀ D W0 W) (hrep : RepMs (SK n₀ D W0) W0 L v) (h0 : J [] W) :
  CallsIn F n Try.prog 60 #[.func (.yield l) #[] #[], .pointer (some ⟨Bt, 0, none⟩)] W fun e W' => (∃ v, e = .returned v) ∧
   ((∃ ys, ys = namesL L ∧ J ys W') ∨ (∃ pre, pre <+: namesL L ∧ Jx pre W')) := by
 have hdd : ∀ k : Nat, (F.depth.isSome = true → 1 ≤ k) := fun k h => by rw [hd] at h; cases h
 have hp := walk_inside F hd h50 hro l n₀ D (namesL L).length W0 J Jx hJ (fun m pre x W hj hl => yieldAt_anyDepth hd m (hY pre x W hj hl)) _ L (Nat.lt_succ_self _) (n - 1) [] W v hn0 hD hk0 hrep h0 (by rw [namesL_length]; simp);clear hY hJ h0 hrep hk0;refine callsIn_of_wp Try.func60 rfl h49 ?_ hro;simp only [Try.ntmps60, List.size_toArray, List.length_cons, List.length_nil, Nat.reduceAdd, Nat.reduceSub, Array.replicate_succ, Array.replicate_zero, List.push_toArray, List.append_toArray, List.nil_append, List.cons_append]
 gi_wp2_with ((try refine ⟨hdd _, ?_⟩); gi_at_call 61; refine hp.mono ?_; clear hp; rintro e W1 (⟨rfl, hJ1, _⟩ | ⟨rfl, q, hq, hx⟩))
 ·go_end0
  exact ⟨⟨_, rfl⟩, .inl ⟨_, rfl, by simpa using hJ1⟩⟩
 ·go_end0
  exact ⟨⟨_, rfl⟩, .inr ⟨q, hq, by simpa using hx⟩⟩
set_option maxHeartbeats 1000000 in
theorem variables_in (F : Fence) (n : Nat) (h32 : F.fn 43) (hro : F.round = none) (a : Option Addr) (len cap : Nat) (w : World) :
  CallsIn F n Try.prog 43 #[.slice a len cap] w fun e w' => e = .returned (.func (.func 60) #[] #[.pointer (some ⟨w.heap.size, 0, none⟩)]) ∧ w' = w.alloc (.cells #[.slice a len cap] 22) := by
 refine callsIn_of_wp Try.func43 rfl h32 ?_ hro;simp only [Try.ntmps43, List.size_toArray, List.length_cons, List.length_nil, Nat.reduceAdd, Nat.reduceSub, Array.replicate_succ, Array.replicate_zero, List.push_toArray, List.append_toArray, List.nil_append, List.cons_append]
 gi_wp2
 go_ret
 exact ⟨rfl, rfl⟩
theorem vars_stops (F : Fence) (hd : F.depth = none) (n : Nat) (h49 : F.fn 60) (h50 : F.fn 61) (hro : F.round = none) (Bt n₀ D : Nat) (L : List Tm) (v : Value) (w : World) (hBt : Bt < w.heap.size) (hn0 : n₀ ≤ w.heap.size) (hD : D ≤ w.heap.size)
  (hc : w.cell? ⟨Bt, 0, none⟩ = some v) (hrep : RepMs (SK n₀ D w) w L v) :
  SeqStopsK F n Try.prog 60 #[.pointer (some ⟨Bt, 0, none⟩)] (fun x : Nm => #[Value.string x.1]) (KpD n₀ D) (fun ys => ys = namesL L) (fun pre => pre <+: namesL L) (namesL L).length w := fun l J Jx W hW hAJ _ hY h0 =>
 vars1_in F hd n h49 h50 hro l Bt n₀ D w L v J Jx (fun s W o hj => hAJ s W _ none hj (World.grownBy_alloc W o none) (fun r e => by cases e)) hY W (Nat.le_trans hn0 hW.size) (Nat.le_trans hD hW.size) ((hW.cell (p := ⟨Bt, 0, none⟩) hBt).trans hc)
  ((KpD.refl n₀ D w).of_below hW hn0) hrep h0
theorem cell_of_box {W : World} {B : Nat} {v : Value} {t : TypeId} (h : W.heap[B]? = some (.cells #[v] t (0, 0))) : W.cell? ⟨B, 0, none⟩ = some v ∧ W.frozen? ⟨B, 0, none⟩ = false := by
 constructor <;> simp [World.cell?, World.frozen?, h]
theorem cell_new1 (W : World) (v : Value) (t : TypeId) : (W.alloc (.cells #[v] t)).cell? ⟨W.heap.size, 0, none⟩ = some v ∧ (W.alloc (.cells #[v] t)).frozen? ⟨W.heap.size, 0, none⟩ = false :=
 cell_of_box (World.alloc_heap_new W _)
end Go.Proofs.Ytjmnnjikmmglpaa
