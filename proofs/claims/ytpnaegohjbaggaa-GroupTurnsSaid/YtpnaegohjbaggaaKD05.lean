/-
  Compare, RoData, Onto, CmpOnto, RoCmp
-/
import Derived.Test.YtpnaegohjbaggaaKD01
import Derived.Test.YtpnaegohjbaggaaKD04
import Derived.WalkSpells
import Derived.WalkLawsBesides
import Derived.StillTailTactics
import Derived.Below
import Derived.Sort.Grow
import Derived.Deep.Draws
namespace Go.Proofs.Ytpnaegohjbaggaa
open Go.RowKit
def cmpS (a b : ByteArray) : Int := if Op.bytesLess a.toList b.toList = true then -1 else if (a.toList == b.toList) = true then 0 else 1
theorem isNaN_str (s : ByteArray) (w : World) : Calls Try.prog 70 #[.string s] w fun e w' => e = .returned (.bool false) ∧ w = w' := by
 go_enter Try.func70, Try.ntmps70
 go_wp2
 go_ret
 exact ⟨by simp, rfl⟩
theorem ret_int {k : IntKind} {a b : Int} (h : a = b) : Ending.returned (.int k a) = .returned (.int k b) := by rw [h]
set_option maxRecDepth 100000 in
set_option maxHeartbeats 400000 in
theorem cmp_str (a b : ByteArray) (w : World) : Calls Try.prog 42 #[.string a, .string b] w fun e w' => e = .returned (.int .i64 (cmpS a b)) ∧ w = w' := by
 go_enter Try.func42, Try.ntmps42
 go_wp2_with (go_at_call 70; refine (isNaN_str _ _).mono ?_; rintro e w' ⟨rfl, rfl⟩)
 all_goals go_ret
 ·exact ⟨ret_int (by unfold cmpS; rw [if_pos ‹_›]), rfl⟩
 ·exact ⟨ret_int (by unfold cmpS; rw [if_neg (by simp [*]), if_neg (by simp_all)]), rfl⟩
 ·exact ⟨ret_int (by unfold cmpS; rw [if_neg (by simp [*]), if_pos (by simp_all)]), rfl⟩
mutual
def cmpV : V → V → Int
 | .mk k n s l, .mk k' n' s' l' =>
  if k ≠ k' then Lib.compareInt k k' else if k = 1 then Lib.compareInt n n' else if k = 2 ∨ k = 3 then cmpS s s' else if k = 4 then cmpL l l' else 0
def cmpL : List V → List V → Int
 | [], [] => 0
 | [], _ :: _ => -1
 | _ :: _, [] => 1
 | x :: l, y :: m => if cmpV x y ≠ 0 then cmpV x y else cmpL l m
end
theorem cmpL_at {l m : List V} {k : Nat} (hl : k < l.length) (hm : k < m.length) : cmpL (l.drop k) (m.drop k) = if cmpV l[k] m[k] ≠ 0 then cmpV l[k] m[k] else cmpL (l.drop (k + 1)) (m.drop (k + 1)) := by
 rw [List.drop_eq_getElem_cons hl, List.drop_eq_getElem_cons hm, cmpL]
theorem cmpL_end {l m : List V} {k : Nat} (hl : k ≤ l.length) (hm : k ≤ m.length) (h : ¬ (k < l.length ∧ k < m.length)) : cmpL (l.drop k) (m.drop k) = Lib.compareInt l.length m.length := by
 unfold Lib.compareInt
 by_cases e1 : k < l.length
 ·have e2 : k = m.length := by omega
  rw [List.drop_of_length_le (l := m) (by omega), List.drop_eq_getElem_cons e1, cmpL, if_neg (by omega), if_pos (by omega)]
 ·rw [List.drop_of_length_le (l := l) (by omega)]
  by_cases e2 : k < m.length
  ·rw [List.drop_eq_getElem_cons e2, cmpL, if_pos (by omega)]
  ·rw [List.drop_of_length_le (l := m) (by omega), cmpL, if_neg (by omega), if_neg (by omega)]
def CmpAt (x y : V) : Prop := ∀ (B : Nat) (w : World) (c0 c1 c2 c3 d0 d1 d2 d3 : Value), B ≤ w.heap.size → RepV B w x c0 c1 c2 c3 → RepV B w y d0 d1 d2 d3 →
 Calls Try.prog 20 #[.agg #[c0, c1, c2, c3], .agg #[d0, d1, d2, d3]] w fun e w' => e = .returned (.int .i64 (cmpV x y)) ∧ Below w.heap.size w w'
set_option maxRecDepth 100000 in
set_option maxHeartbeats 400000 in
theorem cmpLists_of (l m : List V) (hC : ∀ x, x ∈ l → ∀ y, CmpAt x y) (B : Nat) (w : World) (a b : Value) (hB : B ≤ w.heap.size) (ha : RepL B w l a) (hb : RepL B w m b) :
  Calls Try.prog 43 #[a, b] w fun e w' => e = .returned (.int .i64 (cmpL l m)) ∧ Below w.heap.size w w' := by
 obtain ⟨aa, ab, ao, ac, rfl, hal, hac, haa, hab, hax⟩ := ha;obtain ⟨ba, bb, bo, bc, rfl, hbl, hbc, hba, hbb, hbx⟩ := hb;have HC := Lib.hid hC; clear hC
 have HAX := Lib.hid hax; clear hax
 have HBX := Lib.hid hbx; clear hbx
 have HAA := Lib.hid haa; clear haa
 have HBA := Lib.hid hba; clear hba
 go_enter Try.func43, Try.ntmps43
 go_wp2_with fail
 go_loopw [12] (fun i wr => ∃ k : Nat, k ≤ l.length ∧ k ≤ m.length ∧ i = .int .i64 k ∧ Hid (cmpL l m = cmpL (l.drop k) (m.drop k)) ∧ Below w.heap.size w wr) (fun i _ => min l.length m.length - (intOf i).toNat)
 case atStart => exact ⟨0, Nat.zero_le _, Nat.zero_le _, rfl, rfl, Below.refl _ _⟩
 case round =>
  obtain ⟨k, hk1, hk2, rfl, hrec, hbel⟩ := hrel
  by_cases hlt : k < l.length ∧ k < m.length
  ·obtain ⟨hl, hm⟩ := hlt
   obtain ⟨x0, x1, x2, x3, g0, g1, g2, g3, gr⟩ := HAX.out k hl;obtain ⟨y0, y1, y2, y3, e0, e1, e2, e3, er⟩ := HBX.out k hm;have hab' : ab < B := hab (by omega);have hbb' : bb < B := hbb (by omega);obtain rfl := HAA.out (by omega);obtain rfl := HBA.out (by omega);rw [← hbel.cell (by simp; omega)] at g0 g1 g2 g3 e0 e1 e2 e3;go_wp2_with fail
   go_still_tail 8, (by kernel_rfl)
   change wpList _ _ _ _ _ wr.drew;have hbel2 : Below w.heap.size w wr.drew := hbel.drew;clear g0 g1 g2 g3 e0 e1 e2 e3 hbel;generalize wr.drew = w2 at *;have hs := hbel2.size;go_wp2_with fail
   refine (HC.out _ (List.getElem_mem hl) _ B w2 _ _ _ _ _ _ _ _ (by omega) (RepV.below (fun j hj => hbel2.block j (by omega)) _ gr) (RepV.below (fun j hj => hbel2.block j (by omega)) _ er)).mono ?_;rintro e w3 ⟨rfl, hbel3⟩;have hbel4 : Below w.heap.size w w3 := hbel2.trans (hbel3.mono hs);have hcons := cmpL_at hl hm;generalize cmpV l[k] m[k] = c at *;have HN := Lib.hid hcons; clear hcons
   by_cases hc : c = 0
   ·have hc' : (c != 0) = false := by simp [hc]
    have HCZ := Lib.hid hc; clear hc
    go_wp2_with fail
    go_roundw
    case rel => exact ⟨k + 1, by omega, by omega, by go_num, by show _ = _; rw [hrec.out, HN.out, if_neg (by simp [HCZ.out])], hbel4⟩
    case measure => simp [intOf]; omega
   ·have hc' : (c != 0) = true := by simp [hc]
    have HCZ := Lib.hid hc; clear hc
    go_wp2_with fail
    go_ret
    exact ⟨ret_int (by rw [hrec.out, HN.out, if_pos HCZ.out]), hbel4⟩
  ·have hfin : cmpL l m = Lib.compareInt l.length m.length := by rw [hrec.out]; exact cmpL_end hk1 hk2 hlt
   have HF := Lib.hid hfin; clear hfin hrec
   have hmin : ¬ (k : Int) < min (l.length : Int) (m.length : Int) := by omega
   go_wp2_with fail
   refine (Try.cmp_Compare_int _ _ _).mono ?_;rintro e w' ⟨rfl, rfl⟩;go_wp2_with fail
   go_ret
   exact ⟨ret_int HF.out.symm, hbel⟩
theorem below2 (w : World) (o1 o2 : Obj) {w' : World} (h : Below ((w.alloc o1).alloc o2).heap.size ((w.alloc o1).alloc o2) w') : Below w.heap.size w w' :=
 (((Below.refl _ w).alloc (Nat.le_refl _) o1).alloc (by simp) o2).trans (h.mono (by simp; omega))
set_option maxRecDepth 100000 in
set_option maxHeartbeats 1000000 in
theorem cmp_any (x y : V) : CmpAt x y := by
 match x, y with
 | .mk k n s l, .mk k' n' s' l' =>
 have hC : ∀ z, z ∈ l → ∀ y, CmpAt z y := fun z hz y => cmp_any z y
 have HC := Lib.hid hC; clear hC
 intro B w c0 c1 c2 c3 d0 d1 d2 d3 hB hx hy;rw [repV_mk] at hx hy;obtain ⟨rfl, rfl, rfl, hk, hn, hs, hl⟩ := hx;obtain ⟨rfl, rfl, rfl, hk', hn', hs', hl'⟩ := hy;have HL := Lib.hid hl; clear hl
 have HL' := Lib.hid hl'; clear hl'
 have hbb : Below w.heap.size w ((w.alloc (.cells #[.int .i64 k, .int .i64 n, .string s, c3] 27)).alloc (.cells #[.int .i64 k', .int .i64 n', .string s', d3] 27)) :=
  ((Below.refl _ w).alloc (Nat.le_refl _) _).alloc (by simp) _
 by_cases e : k = k'
 ·subst e
  by_cases e1 : k = 1
  ·subst e1
   go_enter Try.func20, Try.ntmps20
   go_wp2_with fail
   refine (Try.cmp_Compare_int _ _ _).mono ?_;rintro e w' ⟨rfl, rfl⟩;go_wp2_with fail
   go_ret
   exact ⟨ret_int (by simp [cmpV]), hbb⟩
  ·by_cases e2 : k = 2
   ·subst e2
    go_enter Try.func20, Try.ntmps20
    go_wp2_with fail
    refine (cmp_str _ _ _).mono ?_;rintro e w' ⟨rfl, rfl⟩;go_wp2_with fail
    go_ret
    exact ⟨ret_int (by simp [cmpV]), hbb⟩
   ·by_cases e3 : k = 3
    ·subst e3
     go_enter Try.func20, Try.ntmps20
     go_wp2_with fail
     refine (cmp_str _ _ _).mono ?_;rintro e w' ⟨rfl, rfl⟩;go_wp2_with fail
     go_ret
     exact ⟨ret_int (by simp [cmpV]), hbb⟩
    ·by_cases e4 : k = 4
     ·subst e4
      go_enter Try.func20, Try.ntmps20
      go_wp2_with fail
      refine (cmpLists_of l l' HC.out B _ _ _ (by simp; omega) (RepL.below (fun j hj => hbb.block j (by omega)) HL.out) (RepL.below (fun j hj => hbb.block j (by omega)) HL'.out)).mono ?_;rintro e w' ⟨rfl, hb⟩;have hb4 := below2 _ _ _ hb;go_wp2_with fail
      go_ret
      exact ⟨ret_int (by simp [cmpV]), hb4⟩
     ·have f1 : (k == 1) = false := by simp [e1]
      have f2 : (k == 2) = false := by simp [e2]
      have f3 : (k == 3) = false := by simp [e3]
      have f4 : (k == 4) = false := by simp [e4]
      have HF : Hid (cmpV (.mk k n s l) (.mk k n' s' l') = 0) := by show _ = _; simp [cmpV, e1, e2, e3, e4]
      clear e1 e2 e3 e4;go_enter Try.func20, Try.ntmps20
      go_wp2_with fail
      go_ret
      exact ⟨ret_int HF.out.symm, hbb⟩
 ·have f1 : (k != k') = true := by simp [e]
  have HF : Hid (cmpV (.mk k n s l) (.mk k' n' s' l') = Lib.compareInt k k') := by show _ = _; simp [cmpV, e]
  clear e;go_enter Try.func20, Try.ntmps20
  go_wp2_with fail
  refine (Try.cmp_Compare_int _ _ _).mono ?_;rintro e w' ⟨rfl, rfl⟩;go_wp2_with fail
  go_ret
  exact ⟨ret_int HF.out.symm, hbb⟩
 termination_by SizeOf.sizeOf x
 decreasing_by
  have := List.sizeOf_lt_of_mem hz;simp only [V.mk.sizeOf_spec]
  omega
end Go.Proofs.Ytpnaegohjbaggaa
namespace Go.Proofs.Ytpnaegohjbaggaa
open Go.RowKit
structure Ro where
 name : ByteArray
 args : List V
 stamp : Int
def RepRo (S : Nat → Prop) (w : World) (x : Ro) (c0 c1 c2 : Value) : Prop := c0 = .string x.name ∧ x.name.size ≤ maxLen ∧ RepLG S w x.args c1 ∧ c2 = .int .i64 x.stamp ∧ I64 x.stamp
theorem RepRo.on {S S' : Nat → Prop} {w w' : World} (hS : ∀ k, S k → S' k) (hw : ∀ k, S k → w'.heap[k]? = w.heap[k]?) {x : Ro} {c0 c1 c2 : Value} (h : RepRo S w x c0 c1 c2) : RepRo S' w' x c0 c1 c2 :=
 ⟨h.1, h.2.1, RepLG.on hS hw h.2.2.1, h.2.2.2⟩
theorem RepRo.form {S : Nat → Prop} {w : World} {x : Ro} {c0 c1 c2 : Value} (h : RepRo S w x c0 c1 c2) :
  ∃ fa fc, c0 = .string x.name ∧ c1 = .slice fa x.args.length fc ∧ c2 = .int .i64 x.stamp := by
 obtain ⟨fa, fc, e⟩ := SlG.form (slg_of_lg h.2.2.1);exact ⟨fa, fc, h.1, e, h.2.2.2.1⟩
def kdRo : Kd Ro where
 T := 47
 ST := 40
 n := 3
 bytes := 48
 R := fun S w x c => RepRo S w x (c 0) (c 1) (c 2)
 pos := by omega
 few := by omega
 on := fun hS hw h => RepRo.on hS hw h
 one := fun h j hj => by
  obtain ⟨ga, gc, e0, e1, e2⟩ := h.form
  match j, hj with
  | 0, _ => rw [e0]; rfl
  | 1, _ => rw [e1]; rfl
  | 2, _ => rw [e2]; rfl
 und := Try.underlying40
 info := info_of (by kernel_rfl)
def RepRos (S : Nat → Prop) (w : World) (l : List Ro) (v : Value) : Prop := SlG S w 3 48 (fun x c => RepRo S w x (c 0) (c 1) (c 2)) l v
theorem RepRos.on {S S' : Nat → Prop} {w w' : World} (hS : ∀ k, S k → S' k) (hw : ∀ k, S k → w'.heap[k]? = w.heap[k]?) {l : List Ro} {v : Value} (h : RepRos S w l v) : RepRos S' w' l v :=
 SlG.on hS hw (fun _ _ _ hx => RepRo.on hS hw hx) h
theorem RepRos.at {S : Nat → Prop} {w : World} {l : List Ro} {a : Option Addr} {len cap : Nat} (h : RepRos S w l (.slice a len cap)) (i : Nat) (hi : i < l.length) :
  len = l.length ∧ l.length ≤ cap ∧ ∃ (b o : Nat) (fa : Option Addr) (fc : Nat), a = some ⟨b, o, none⟩ ∧ S b ∧ w.cell? ⟨b, o + i * 3, none⟩ = some (.string l[i].name) ∧ w.cell? ⟨b, o + i * 3 + 1, none⟩ = some (.slice fa l[i].args.length fc) ∧
   w.cell? ⟨b, o + i * 3 + 2, none⟩ = some (.int .i64 l[i].stamp) ∧ RepRo S w l[i] (.string l[i].name) (.slice fa l[i].args.length fc) (.int .i64 l[i].stamp) := by
 obtain ⟨h1, h2, b, o, h3, h4, c, hc, hR⟩ := SlG.at h i hi;obtain ⟨fa, fc, e0, e1, e2⟩ := hR.form;rw [e0, e1, e2] at hR;refine ⟨h1, h2, b, o, fa, fc, h3, h4, ?_, ?_, ?_, hR⟩
 ·have h := hc 0 (by decide); rw [e0] at h; exact h
 ·have h := hc 1 (by decide); rw [e1] at h; exact h
 ·have h := hc 2 (by decide); rw [e2] at h; exact h
def cmpRo (a b : Ro) : Int := if cmpS a.name b.name ≠ 0 then cmpS a.name b.name else cmpL a.args b.args
end Go.Proofs.Ytpnaegohjbaggaa
namespace Go.Proofs.Ytpnaegohjbaggaa
open Go.RowKit Go.Sort
structure Onto (w w' : World) : Prop where
 below : Below w.heap.size w w'
 drawn : w.drawn ≤ w'.drawn
theorem Onto.refl (w : World) : Onto w w := ⟨Below.refl _ _, Nat.le_refl _⟩
theorem Onto.trans {a b c : World} (h : Onto a b) (k : Onto b c) : Onto a c := ⟨h.below.trans (k.below.mono h.below.size), Nat.le_trans h.drawn k.drawn⟩
theorem Onto.alloc {a b : World} (h : Onto a b) (o : Obj) : Onto a (b.alloc o) := ⟨h.below.alloc h.below.size o, h.drawn⟩
theorem Onto.drew {a b : World} (h : Onto a b) : Onto a b.drew := ⟨h.below.drew, Nat.le_succ_of_le h.drawn⟩
theorem Onto.drewN {a b : World} (h : Onto a b) (n : Nat) : Onto a (b.drewN n) := ⟨⟨h.below.os, h.below.tape, h.below.output, h.below.size, h.below.block⟩, Nat.le_trans h.drawn (Nat.le_add_right _ _)⟩
theorem Onto.grow {w w' : World} (h : Onto w w') : ∃ q os, w' = grow (w.drewN q) os := by
 refine ⟨w'.drawn - w.drawn, w'.heap.extract w.heap.size w'.heap.size, ?_⟩;obtain ⟨⟨h1, h2, h3, h4, h5⟩, h6⟩ := h
 have hh : w'.heap = w.heap ++ w'.heap.extract w.heap.size w'.heap.size := by
  apply Array.ext_getElem?
  intro i;rw [Array.getElem?_append]
  split
  ·exact h5 i ‹_›
  ·rw [Array.getElem?_extract]
   split
   ·congr 1; omega
   ·rw [Array.getElem?_eq_none (by omega)]
 cases w; cases w'
 simp only [World.drewN, Go.Sort.grow, World.mk.injEq] at *
 refine ⟨hh, h2, by omega, h1, h3⟩
end Go.Proofs.Ytpnaegohjbaggaa
namespace Go.Proofs.Ytpnaegohjbaggaa
open Go.RowKit
def CmpOn (x y : V) : Prop := ∀ (B : Nat) (w : World) (c0 c1 c2 c3 d0 d1 d2 d3 : Value), B ≤ w.heap.size → RepV B w x c0 c1 c2 c3 → RepV B w y d0 d1 d2 d3 →
 Calls Try.prog 20 #[.agg #[c0, c1, c2, c3], .agg #[d0, d1, d2, d3]] w fun e w' => e = .returned (.int .i64 (cmpV x y)) ∧ Onto w w'
set_option maxRecDepth 100000 in
set_option maxHeartbeats 400000 in
theorem cmpListsO_of (l m : List V) (hC : ∀ x, x ∈ l → ∀ y, CmpOn x y) (B : Nat) (w : World) (a b : Value) (hB : B ≤ w.heap.size) (ha : RepL B w l a) (hb : RepL B w m b) :
  Calls Try.prog 43 #[a, b] w fun e w' => e = .returned (.int .i64 (cmpL l m)) ∧ Onto w w' := by
 obtain ⟨aa, ab, ao, ac, rfl, hal, hac, haa, hab, hax⟩ := ha;obtain ⟨ba, bb, bo, bc, rfl, hbl, hbc, hba, hbb, hbx⟩ := hb;have HC := Lib.hid hC; clear hC
 have HAX := Lib.hid hax; clear hax
 have HBX := Lib.hid hbx; clear hbx
 have HAA := Lib.hid haa; clear haa
 have HBA := Lib.hid hba; clear hba
 go_enter Try.func43, Try.ntmps43
 go_wp2_with fail
 go_loopw [12] (fun i wr => ∃ k : Nat, k ≤ l.length ∧ k ≤ m.length ∧ i = .int .i64 k ∧ Hid (cmpL l m = cmpL (l.drop k) (m.drop k)) ∧ Onto w wr) (fun i _ => min l.length m.length - (intOf i).toNat)
 case atStart => exact ⟨0, Nat.zero_le _, Nat.zero_le _, rfl, rfl, Onto.refl _⟩
 case round =>
  obtain ⟨k, hk1, hk2, rfl, hrec, hbel⟩ := hrel
  by_cases hlt : k < l.length ∧ k < m.length
  ·obtain ⟨hl, hm⟩ := hlt
   obtain ⟨x0, x1, x2, x3, g0, g1, g2, g3, gr⟩ := HAX.out k hl;obtain ⟨y0, y1, y2, y3, e0, e1, e2, e3, er⟩ := HBX.out k hm;have hab' : ab < B := hab (by omega);have hbb' : bb < B := hbb (by omega);obtain rfl := HAA.out (by omega);obtain rfl := HBA.out (by omega);rw [← hbel.below.cell (by simp; omega)] at g0 g1 g2 g3 e0 e1 e2 e3;go_wp2_with fail
   go_still_tail 8, (by kernel_rfl)
   change wpList _ _ _ _ _ wr.drew;have hbel2 : Onto w wr.drew := hbel.drew;clear g0 g1 g2 g3 e0 e1 e2 e3 hbel;generalize wr.drew = w2 at *;have hs := hbel2.below.size;go_wp2_with fail
   refine (HC.out _ (List.getElem_mem hl) _ B w2 _ _ _ _ _ _ _ _ (by omega) (RepV.below (fun j hj => hbel2.below.block j (by omega)) _ gr) (RepV.below (fun j hj => hbel2.below.block j (by omega)) _ er)).mono ?_;rintro e w3 ⟨rfl, hbel3⟩;have hbel4 : Onto w w3 := hbel2.trans hbel3;have hcons := cmpL_at hl hm;generalize cmpV l[k] m[k] = c at *;have HN := Lib.hid hcons; clear hcons
   by_cases hc : c = 0
   ·have hc' : (c != 0) = false := by simp [hc]
    have HCZ := Lib.hid hc; clear hc
    go_wp2_with fail
    go_roundw
    case rel => exact ⟨k + 1, by omega, by omega, by go_num, by show _ = _; rw [hrec.out, HN.out, if_neg (by simp [HCZ.out])], hbel4⟩
    case measure => simp [intOf]; omega
   ·have hc' : (c != 0) = true := by simp [hc]
    have HCZ := Lib.hid hc; clear hc
    go_wp2_with fail
    go_ret
    exact ⟨ret_int (by rw [hrec.out, HN.out, if_pos HCZ.out]), hbel4⟩
  ·have hfin : cmpL l m = Lib.compareInt l.length m.length := by rw [hrec.out]; exact cmpL_end hk1 hk2 hlt
   have HF := Lib.hid hfin; clear hfin hrec
   have hmin : ¬ (k : Int) < min (l.length : Int) (m.length : Int) := by omega
   go_wp2_with fail
   refine (Try.cmp_Compare_int _ _ _).mono ?_;rintro e w' ⟨rfl, rfl⟩;go_wp2_with fail
   go_ret
   exact ⟨ret_int HF.out.symm, hbel⟩
theorem onto2 (w : World) (o1 o2 : Obj) {w' : World} (h : Onto ((w.alloc o1).alloc o2) w') : Onto w w' :=
 (((Onto.refl w).alloc o1).alloc o2).trans h
set_option maxRecDepth 100000 in
set_option maxHeartbeats 1000000 in
theorem cmpO_any (x y : V) : CmpOn x y := by
 match x, y with
 | .mk k n s l, .mk k' n' s' l' =>
 have hC : ∀ z, z ∈ l → ∀ y, CmpOn z y := fun z hz y => cmpO_any z y
 have HC := Lib.hid hC; clear hC
 intro B w c0 c1 c2 c3 d0 d1 d2 d3 hB hx hy;rw [repV_mk] at hx hy;obtain ⟨rfl, rfl, rfl, hk, hn, hs, hl⟩ := hx;obtain ⟨rfl, rfl, rfl, hk', hn', hs', hl'⟩ := hy;have HL := Lib.hid hl; clear hl
 have HL' := Lib.hid hl'; clear hl'
 have hbb : Onto w ((w.alloc (.cells #[.int .i64 k, .int .i64 n, .string s, c3] 27)).alloc (.cells #[.int .i64 k', .int .i64 n', .string s', d3] 27)) :=
  ((Onto.refl w).alloc _).alloc _
 by_cases e : k = k'
 ·subst e
  by_cases e1 : k = 1
  ·subst e1
   go_enter Try.func20, Try.ntmps20
   go_wp2_with fail
   refine (Try.cmp_Compare_int _ _ _).mono ?_;rintro e w' ⟨rfl, rfl⟩;go_wp2_with fail
   go_ret
   exact ⟨ret_int (by simp [cmpV]), hbb⟩
  ·by_cases e2 : k = 2
   ·subst e2
    go_enter Try.func20, Try.ntmps20
    go_wp2_with fail
    refine (cmp_str _ _ _).mono ?_;rintro e w' ⟨rfl, rfl⟩;go_wp2_with fail
    go_ret
    exact ⟨ret_int (by simp [cmpV]), hbb⟩
   ·by_cases e3 : k = 3
    ·subst e3
     go_enter Try.func20, Try.ntmps20
     go_wp2_with fail
     refine (cmp_str _ _ _).mono ?_;rintro e w' ⟨rfl, rfl⟩;go_wp2_with fail
     go_ret
     exact ⟨ret_int (by simp [cmpV]), hbb⟩
    ·by_cases e4 : k = 4
     ·subst e4
      go_enter Try.func20, Try.ntmps20
      go_wp2_with fail
      refine (cmpListsO_of l l' HC.out B _ _ _ (by simp; omega) (RepL.below (fun j hj => hbb.below.block j (by omega)) HL.out) (RepL.below (fun j hj => hbb.below.block j (by omega)) HL'.out)).mono ?_;rintro e w' ⟨rfl, hb⟩;have hb4 := onto2 _ _ _ hb;go_wp2_with fail
      go_ret
      exact ⟨ret_int (by simp [cmpV]), hb4⟩
     ·have f1 : (k == 1) = false := by simp [e1]
      have f2 : (k == 2) = false := by simp [e2]
      have f3 : (k == 3) = false := by simp [e3]
      have f4 : (k == 4) = false := by simp [e4]
      have HF : Hid (cmpV (.mk k n s l) (.mk k n' s' l') = 0) := by show _ = _; simp [cmpV, e1, e2, e3, e4]
      clear e1 e2 e3 e4;go_enter Try.func20, Try.ntmps20
      go_wp2_with fail
      go_ret
      exact ⟨ret_int HF.out.symm, hbb⟩
 ·have f1 : (k != k') = true := by simp [e]
  have HF : Hid (cmpV (.mk k n s l) (.mk k' n' s' l') = Lib.compareInt k k') := by show _ = _; simp [cmpV, e]
  clear e;go_enter Try.func20, Try.ntmps20
  go_wp2_with fail
  refine (Try.cmp_Compare_int _ _ _).mono ?_;rintro e w' ⟨rfl, rfl⟩;go_wp2_with fail
  go_ret
  exact ⟨ret_int HF.out.symm, hbb⟩
 termination_by SizeOf.sizeOf x
 decreasing_by
  have := List.sizeOf_lt_of_mem hz;simp only [V.mk.sizeOf_spec]
  omega
end Go.Proofs.Ytpnaegohjbaggaa
namespace Go.Proofs.Ytpnaegohjbaggaa
open Go.RowKit
theorem cmpL_short {l m : List V} {k : Nat} (hl : k < l.length) (hm : k = m.length) : cmpL (l.drop k) (m.drop k) = 1 := by
 rw [List.drop_eq_getElem_cons hl, List.drop_of_length_le (l := m) (by omega), cmpL]
theorem cmpL_stop {l m : List V} {k : Nat} (hl : k = l.length) (hm : k ≤ m.length) : cmpL (l.drop k) (m.drop k) = if l.length < m.length then -1 else 0 := by
 rw [List.drop_of_length_le (l := l) (by omega)]
 by_cases h : k < m.length
 ·rw [List.drop_eq_getElem_cons h, cmpL, if_pos (by omega)]
 ·rw [List.drop_of_length_le (l := m) (by omega), cmpL, if_neg (by omega)]
set_option maxRecDepth 100000 in
set_option maxHeartbeats 2000000 in
theorem cmpFunc_any (l m : List V) (S : Nat → Prop) (w : World) (a b : Value) (hS : ∀ k, S k → k < w.heap.size) (ha : RepLG S w l a) (hb : RepLG S w m b) :
  Calls Try.prog 68 #[a, b, .func (.func 20) #[] #[]] w fun e w' => e = .returned (.int .i64 (cmpL l m)) ∧ Onto w w' := by
 have hen : ∀ args w, Sem.run Try.prog (callFunc 20 args) w = .ok (.enter 20 args) w := fun args w => by kernel_rfl
 have h63 : l.length * 56 ≤ 140737488355328 := SlG.bytes (slg_of_lg ha);have h64 : m.length * 56 ≤ 140737488355328 := SlG.bytes (slg_of_lg hb);obtain ⟨aa, ac, rfl⟩ := SlG.form (slg_of_lg ha);obtain ⟨ba, bc, rfl⟩ := SlG.form (slg_of_lg hb);have HA := Lib.hid ha; have HB := Lib.hid hb; have HS := Lib.hid hS
 clear ha hb hS;go_enter Try.func68, Try.ntmps68
 go_wp2_with fail
 go_loopw [13] (fun iv wr => ∃ k : Nat, k ≤ l.length ∧ k ≤ m.length ∧ iv = .int .i64 (k : Int) ∧ Hid (cmpL l m = cmpL (l.drop k) (m.drop k)) ∧ Hid (Onto w wr)) (fun iv _ => l.length - (intOf iv).toNat)
 case atStart => exact ⟨0, Nat.zero_le _, Nat.zero_le _, rfl, rfl, Onto.refl _⟩
 case round =>
  obtain ⟨k, hk, hkm, rfl, hrec, hon⟩ := hrel
  by_cases hl : k < l.length
  ·have hAW : RepLG S wr l (.slice aa l.length ac) := RepLG.on (fun _ h => h) (fun b hb' => hon.out.below.block b (HS.out b hb')) HA.out
   obtain ⟨-, -, xb, xo, rfl, hxb, c, hcc, hx⟩ := SlG.at (slg_of_lg hAW) k hl;have hx' : RepG S wr l[k] (c 0) (c 1) (c 2) (c 3) := hx;obtain ⟨va, vc, e0, e1, e2, e3⟩ := hx'.form;rw [e0, e1, e2, e3] at hx';have n0 := hcc 0 (by decide); have n1 := hcc 1 (by decide); have n2 := hcc 2 (by decide); have n3 := hcc 3 (by decide)
   rw [e0] at n0; rw [e1] at n1; rw [e2] at n2; rw [e3] at n3
   replace n0 : wr.cell? ⟨xb, xo + k * 4, none⟩ = _ := n0;clear hAW hxb hcc hx e0 e1 e2 e3 c;have HX := Lib.hid hx';clear hx';have hk1 : (0 : Int) ≤ (k : Int) := Int.natCast_nonneg k;have hk2 : (k : Int) < (l.length : Int) := by omega
   have k1 : decide ((k : Int) < (l.length : Int)) = true := decide_eq_true hk2
   by_cases hm : k < m.length
   ·have hBW : RepLG S wr m (.slice ba m.length bc) := RepLG.on (fun _ h => h) (fun b hb' => hon.out.below.block b (HS.out b hb')) HB.out
    obtain ⟨-, -, yb, yo, rfl, hyb, c, hcc, hy⟩ := SlG.at (slg_of_lg hBW) k hm;have hy' : RepG S wr m[k] (c 0) (c 1) (c 2) (c 3) := hy;obtain ⟨ya, yc, e0, e1, e2, e3⟩ := hy'.form;rw [e0, e1, e2, e3] at hy';have d0 := below_alloc wr (.cells #[.int .i64 l[k].kind, .int .i64 l[k].num, .string l[k].text, .slice va l[k].list.length vc] 27);have hyl : yb < wr.heap.size := Nat.lt_of_lt_of_le (HS.out _ hyb) hon.out.below.size;have r0 := (d0.cell (p := ⟨yb, yo + k * 4, none⟩) hyl).trans (hcc 0 (by decide)); have r1 := (d0.cell (p := ⟨yb, yo + k * 4 + 1, none⟩) hyl).trans (hcc 1 (by decide)); have r2 := (d0.cell (p := ⟨yb, yo + k * 4 + 2, none⟩) hyl).trans (hcc 2 (by decide)); have r3 := (d0.cell (p := ⟨yb, yo + k * 4 + 3, none⟩) hyl).trans (hcc 3 (by decide))
    rw [e0] at r0; rw [e1] at r1; rw [e2] at r2; rw [e3] at r3
    clear hBW hyb hcc hy e0 e1 e2 e3 c d0 hyl;have HY := Lib.hid hy';clear hy';have hk3 : (k : Int) < (m.length : Int) := by omega
    have k2 : decide ((m.length : Int) ≤ (k : Int)) = false := decide_eq_false (by omega);have HREC := Lib.hid (hrec.out.trans (cmpL_at hl hm));have HL := Lib.hid hl; have HM := Lib.hid hm
    clear hrec hk hkm;generalize l[k] = x at *;generalize m[k] = y at *;clear hl hm;go_upto_region 4 with fail
    clear n0 n1 n2 n3 k1;go_wp2_with fail
    refine (cmpO_any x y _ _ _ _ _ _ _ _ _ _ (Nat.le_refl _) (RepG.on (fun b hb => Nat.lt_of_lt_of_le (HS.out b hb) ((hon.out.alloc _).alloc _).below.size) (fun b hb => (((Onto.refl wr).alloc _).alloc _).below.block b (Nat.lt_of_lt_of_le (HS.out b hb) hon.out.below.size)) _ HX.out) (RepG.on (fun b hb => Nat.lt_of_lt_of_le (HS.out b hb) ((hon.out.alloc _).alloc _).below.size) (fun b hb => (((Onto.refl wr).alloc _).alloc _).below.block b (Nat.lt_of_lt_of_le (HS.out b hb) hon.out.below.size)) _ HY.out)).mono ?_;rintro e w3 ⟨rfl, ho⟩;have HO : Hid (Onto w w3) := ((hon.out.alloc _).alloc _).trans ho;clear ho hon r0 r1 r2 r3;generalize cmpV x y = c at *
    by_cases hc : c = 0
    ·have hc' : (c != 0) = false := by simp [hc]
     have HCZ := Lib.hid hc;clear hc;go_wp2_with fail
     go_roundw
     case rel => exact ⟨k + 1, HL.out, HM.out, by go_num, by show _ = _; rw [HREC.out, if_neg (by simp [HCZ.out])], HO⟩
     case measure => have := HL.out; simp [intOf]; omega
    ·have hc' : (c != 0) = true := by simp [hc]
     have HCZ := Lib.hid hc;clear hc;go_wp2_with fail
     go_ret
     exact ⟨ret_int (by rw [HREC.out, if_pos HCZ.out]), HO⟩
   ·have k2 : decide ((m.length : Int) ≤ (k : Int)) = true := decide_eq_true (by omega)
    have k3 : decide (m.length ≤ k) = true := decide_eq_true (by omega);have HE : Hid (cmpL l m = 1) := hrec.out.trans (cmpL_short hl (by omega));clear hrec hk hkm hm;generalize l[k] = x at *;clear hl;go_wp2_with fail
    go_ret
    exact ⟨ret_int HE.out.symm, hon.out.alloc _⟩
  ·have hke : k = l.length := by omega
   have HE : Hid (cmpL l m = if l.length < m.length then -1 else 0) := hrec.out.trans (cmpL_stop hke hkm);clear hrec hk;subst hke;clear hl
   by_cases hq : l.length < m.length
   ·have k1 : decide ((l.length : Int) < (m.length : Int)) = true := decide_eq_true (by omega)
    have HQ := Lib.hid hq;clear hkm;go_wp2_with fail
    go_ret
    exact ⟨ret_int (by rw [HE.out, if_pos HQ.out]), hon.out⟩
   ·have k1 : decide ((l.length : Int) < (m.length : Int)) = false := decide_eq_false (by omega)
    have k2 : decide (l.length < m.length) = false := decide_eq_false hq;have HQ := Lib.hid hq;clear hkm hq;go_wp2_with fail
    go_ret
    exact ⟨ret_int (by rw [HE.out, if_neg HQ.out]), hon.out⟩
set_option maxRecDepth 100000 in
set_option maxHeartbeats 2000000 in
theorem cmpRo_any (x y : Ro) (S : Nat → Prop) (w : World) (c0 c1 c2 d0 d1 d2 : Value) (hS : ∀ k, S k → k < w.heap.size) (hx : RepRo S w x c0 c1 c2) (hy : RepRo S w y d0 d1 d2) :
  Calls Try.prog 40 #[.agg #[c0, c1, c2], .agg #[d0, d1, d2]] w fun e w' => e = .returned (.int .i64 (cmpRo x y)) ∧ Onto w w' := by
 have HX : Hid (RepLG S w x.args c1) := hx.2.2.1;have HY : Hid (RepLG S w y.args d1) := hy.2.2.1;obtain ⟨xa, xc, rfl, rfl, rfl⟩ := hx.form;obtain ⟨ya, yc, rfl, rfl, rfl⟩ := hy.form;have HS := Lib.hid hS;clear hx hy hS;obtain ⟨c, hc⟩ : ∃ c, cmpS x.name y.name = c := ⟨_, rfl⟩;have HC := Lib.hid hc
 by_cases hz : c = 0
 ·have hz' : (c != 0) = false := by simp [hz]
  have HZ := Lib.hid hz;clear hz;go_enter Try.func40, Try.ntmps40
  go_wp2_with fail
  refine (cmp_str x.name y.name _).mono ?_;rintro e w' ⟨rfl, rfl⟩;rw [hc];clear hc;go_wp2_with fail
  refine (cmpFunc_any x.args y.args S _ _ _ (fun k hk => Nat.lt_of_lt_of_le (HS.out k hk) (((Onto.refl w).alloc _).alloc _).below.size) (RepLG.on (fun _ h => h) (fun b hb => (((Onto.refl w).alloc _).alloc _).below.block b (HS.out b hb)) HX.out) (RepLG.on (fun _ h => h) (fun b hb => (((Onto.refl w).alloc _).alloc _).below.block b (HS.out b hb)) HY.out)).mono ?_;rintro e w3 ⟨rfl, ho⟩;have HO : Hid (Onto w w3) := (((Onto.refl w).alloc _).alloc _).trans ho;clear ho;go_wp2_with fail
  go_ret
  exact ⟨ret_int (by unfold cmpRo; rw [HC.out, if_neg (by simp [HZ.out])]), HO.out⟩
 ·have hz' : (c != 0) = true := by simp [hz]
  have HZ := Lib.hid hz;clear hz;go_enter Try.func40, Try.ntmps40
  go_wp2_with fail
  refine (cmp_str x.name y.name _).mono ?_;rintro e w' ⟨rfl, rfl⟩;rw [hc];clear hc;go_wp2_with fail
  go_ret
  exact ⟨ret_int (by unfold cmpRo; rw [HC.out, if_pos HZ.out]), ((Onto.refl w).alloc _).alloc _⟩
end Go.Proofs.Ytpnaegohjbaggaa
