/-
  Right, Heap, Boxed, Find, TermRight, TermAt
-/
import Derived.Test.YtjohcnhiblfbnaaGreatDoorR02
import Derived.Test.YtjohcnhiblfbnaaGreatDoorR01
import Derived.WalkSpells
import Derived.WalkLawsBesides
import Derived.Laws.EntriesVeiled
namespace Go.Proofs.YtjohcnhiblfbnaaGreatDoor
open Go.RowKit
def baseB (k n : Int) (s : ByteArray) (l : List V) (b : Bool) : Bool :=
 if k = 1 then s.toList.isEmpty && l.isEmpty && decide (-2147483647 ≤ n) && decide (n ≤ 2147483647)
 else if k = 2 then (n == 0) && l.isEmpty && textB s
 else if k = 3 then (n == 0) && l.isEmpty && nameB s
 else if k = 4 then (n == 0) && s.toList.isEmpty && b
 else false
def rightV : Nat → V → Bool
 | 0, .mk k n s l => baseB k n s l false
 | d + 1, .mk k n s l => baseB k n s l (decide (l.length ≤ 16) && l.all (rightV d))
def rightL : Nat → List V → Bool
 | 0, _ => false
 | d + 1, l => decide (l.length ≤ 16) && l.all (rightV d)
theorem rightV_mk (d : Nat) (k n : Int) (s : ByteArray) (l : List V) : rightV d (.mk k n s l) = baseB k n s l (rightL d l) := by
 cases d <;> simp [rightV, rightL]
def RightAt (d : Nat) : Prop := ∀ (x : V) (B : Nat) (w : World) (c0 c1 c2 c3 : Value), B ≤ w.heap.size → RepV B w x c0 c1 c2 c3 →
 Calls Tryz.prog 157 #[.agg #[c0, c1, c2, c3], .int .i64 d] w fun e w' => e = .returned (.bool (rightV d x)) ∧ Below w.heap.size w w'
def RightListAt (d : Nat) : Prop := ∀ (l : List V) (B : Nat) (w : World) (a : Value), B ≤ w.heap.size → RepL B w l a →
 Calls Tryz.prog 175 #[a, .int .i64 d] w fun e w' => e = .returned (.bool (rightL d l)) ∧ Below w.heap.size w w'
theorem rightL_none {l : List V} (d : Nat) (h : 16 < l.length) : rightL d l = false := by
 cases d with
 | zero => rfl
 | succ d => simp only [rightL, Bool.and_eq_false_iff, decide_eq_false_iff_not]; omega
set_option maxRecDepth 100000 in
set_option maxHeartbeats 1000000 in
theorem rightList_of (d : Nat) (hd : d ≤ 100) (hR : ∀ d', d = d' + 1 → RightAt d') : RightListAt d := by
 intro l B w a hB ha
 obtain ⟨aa, ab, ao, ac, rfl, hal, hac, haa, hab, hax⟩ := ha
 have HAX := Lib.hid hax; clear hax
 have HAA := Lib.hid haa; clear haa
 match d, hd, hR with
 | 0, _, _ =>
  go_enter Tryz.func175, Tryz.ntmps175
  go_wp2_with fail
  go_ret
  exact ⟨rfl, Below.refl _ _⟩
 | d + 1, hd, hR =>
 have HR := Lib.hid (hR d rfl); clear hR
 rw [show (((d + 1 : Nat)) : Int) = (d : Int) + 1 from by omega]
 have hd1 : decide ((d : Int) + 1 < 1) = false := by simp; omega
 by_cases hz : 16 < l.length
 ·have HF := Lib.hid (rightL_none (d + 1) hz)
  have hz' : decide (16 < (l.length : Int)) = true := by simp; omega
  go_enter Tryz.func175, Tryz.ntmps175
  go_wp2_with fail
  go_ret
  exact ⟨ret_bool HF.out.symm, Below.refl _ _⟩
 have hz' : decide (16 < (l.length : Int)) = false := by simp; omega
 go_enter Tryz.func175, Tryz.ntmps175
 go_wp2_with fail
 go_loopw [16] (fun i wr => ∃ k : Nat, k ≤ l.length ∧ i = .int .i64 k ∧ Hid ((l.take k).all (rightV d) = true) ∧ Below w.heap.size w wr) (fun i _ => l.length - (intOf i).toNat)
 case atStart => exact ⟨0, Nat.zero_le _, rfl, by show _ = _; simp, Below.refl _ _⟩
 case round =>
  obtain ⟨k, hk1, rfl, hrec, hbel⟩ := hrel
  by_cases hl : k < l.length
  ·obtain ⟨x0, x1, x2, x3, g0, g1, g2, g3, gr⟩ := HAX.out k hl
   have hab' : ab < B := hab (by omega)
   obtain rfl := HAA.out (by omega)
   rw [← hbel.cell (by simp; omega)] at g0 g1 g2 g3
   have hs := hbel.size
   obtain ⟨fa, fc, rfl, rfl, rfl, rfl⟩ := gr.form
   go_wp2_with fail
   have hb2 : Below w.heap.size w (wr.alloc (.cells #[.int .i64 l[k].kind, .int .i64 l[k].num, .string l[k].text, .slice fa l[k].list.length fc] 50)) := hbel.alloc hs _
   refine (HR.out l[k] B _ _ _ _ _ (by simp; omega) (RepV.below (fun j hj => hb2.block j (by omega)) _ gr)).mono ?_
   rintro e w3 ⟨rfl, hbel3⟩
   have hbel4 : Below w.heap.size w w3 := hb2.trans (hbel3.mono (by simp; omega))
   have hts : l.take (k + 1) = l.take k ++ [l[k]] := by rw [List.take_succ_eq_append_getElem hl]
   have HTS := Lib.hid hts; clear hts
   clear hbel3 hb2 g0 g1 g2 g3
   cases hc : rightV d l[k] with
   | true =>
    have HCZ := Lib.hid hc; clear hc
    go_wp2_with fail
    go_roundw
    case rel => exact ⟨k + 1, by omega, by go_num, by show _ = _; rw [HTS.out, List.all_append, hrec.out]; simp [HCZ.out], hbel4⟩
    case measure => simp [intOf]; omega
   | false =>
    have HCZ := Lib.hid hc; clear hc
    go_wp2_with fail
    go_ret
    refine ⟨ret_bool ?_, hbel4⟩
    symm
    simp only [rightL, Bool.and_eq_false_iff]
    refine Or.inr ?_
    rw [List.all_eq_false]
    exact ⟨_, List.getElem_mem hl, by simp [HCZ.out]⟩
  ·have HF : Hid (rightL (d + 1) l = true) := by
    have h1 := hrec.out
    rw [List.take_of_length_le (by omega)] at h1
    show _ = _
    simp only [rightL, h1, Bool.and_true, decide_eq_true_eq]
    omega
   go_wp2_with fail
   go_ret
   exact ⟨ret_bool HF.out.symm, hbel⟩
set_option maxRecDepth 100000 in
set_option maxHeartbeats 1000000 in
theorem right_of (d : Nat) (_hd : d ≤ 100) (hL : RightListAt d) : RightAt d := by
 intro x B w c0 c1 c2 c3 hB hx
 cases x with
 | mk k n s l =>
 rw [rightV_mk]
 rw [repV_mk] at hx
 obtain ⟨rfl, rfl, rfl, hk, hn, hs, hl⟩ := hx
 have hl' := hl
 obtain ⟨aa, ab, ao, ac, rfl, hlac, hac, -⟩ := hl'
 have HL := Lib.hid hl; clear hl
 have HLL := Lib.hid hL; clear hL
 have hle : l.isEmpty = decide (l.length = 0) := by cases l <;> simp
 generalize hlen : l.length = len at *
 have HE := Lib.hid hle; clear hle hlen
 have hbb : Below w.heap.size w (w.alloc (.cells #[.int .i64 k, .int .i64 n, .string s, .slice aa len ac] 50)) :=
  ((Below.refl _ w).alloc (Nat.le_refl _) _)
 by_cases e1 : k = 1
 ·subst e1
  go_enter Tryz.func157, Tryz.ntmps157
  go_wp2_with fail
  all_goals
   go_ret
   refine ⟨ret_bool ?_, (Below.refl _ w).alloc (Nat.le_refl _) _⟩
   simp [baseB, HE.out, *] <;> omega
 by_cases e2 : k = 2
 ·subst e2
  by_cases hn0 : n = 0
  ·subst hn0
   by_cases hz : len = 0
   ·subst hz
    go_enter Tryz.func157, Tryz.ntmps157
    go_wp2_with fail
    refine (rightText_any _ _ hs).mono ?_
    rintro e w' ⟨rfl, hb⟩
    go_wp2_with fail
    go_ret
    exact ⟨ret_bool (by simp [baseB, HE.out]), hbb.trans (hb.mono (by simp))⟩
   ·have hz' : ((len : Int) == 0) = false := by simp [hz]
    have HB : Hid (baseB 2 0 s l (rightL d l) = false) := by show _ = _; simp [baseB, HE.out, hz]
    clear hz
    go_enter Tryz.func157, Tryz.ntmps157
    go_wp2_with fail
    go_ret
    exact ⟨ret_bool HB.out.symm, hbb⟩
  ·have hn' : (n == 0) = false := by simp [hn0]
   have HB : Hid (baseB 2 n s l (rightL d l) = false) := by show _ = _; simp [baseB, hn0]
   clear hn0
   go_enter Tryz.func157, Tryz.ntmps157
   go_wp2_with fail
   go_ret
   exact ⟨ret_bool HB.out.symm, hbb⟩
 by_cases e3 : k = 3
 ·subst e3
  by_cases hn0 : n = 0
  ·subst hn0
   by_cases hz : len = 0
   ·subst hz
    go_enter Tryz.func157, Tryz.ntmps157
    go_wp2_with fail
    refine (name_any _ _ hs).mono ?_
    rintro e w' ⟨rfl, hb⟩
    go_wp2_with fail
    go_ret
    exact ⟨ret_bool (by simp [baseB, HE.out]), hbb.trans (hb.mono (by simp))⟩
   ·have hz' : ((len : Int) == 0) = false := by simp [hz]
    have HB : Hid (baseB 3 0 s l (rightL d l) = false) := by show _ = _; simp [baseB, HE.out, hz]
    clear hz
    go_enter Tryz.func157, Tryz.ntmps157
    go_wp2_with fail
    go_ret
    exact ⟨ret_bool HB.out.symm, hbb⟩
  ·have hn' : (n == 0) = false := by simp [hn0]
   have HB : Hid (baseB 3 n s l (rightL d l) = false) := by show _ = _; simp [baseB, hn0]
   clear hn0
   go_enter Tryz.func157, Tryz.ntmps157
   go_wp2_with fail
   go_ret
   exact ⟨ret_bool HB.out.symm, hbb⟩
 by_cases e4 : k = 4
 ·subst e4
  by_cases hn0 : n = 0
  ·subst hn0
   by_cases hz : s.toList = []
   ·have HZ := Lib.hid hz
    have hz1 : (!s.toList.isEmpty) = false := by simp [hz]
    go_enter Tryz.func157, Tryz.ntmps157
    go_wp2_with fail
    refine (HLL.out l B _ _ (by simp; omega) (RepL.below (fun j hj => hbb.block j (by omega)) HL.out)).mono ?_
    rintro e w' ⟨rfl, hb⟩
    go_wp2_with fail
    go_ret
    exact ⟨ret_bool (by simp [baseB, HZ.out]), hbb.trans (hb.mono (by simp))⟩
   ·have hz1 : s.toList.isEmpty = false := by simpa using hz
    have HB : Hid (baseB 4 0 s l (rightL d l) = false) := by show _ = _; simp [baseB, hz]
    go_enter Tryz.func157, Tryz.ntmps157
    go_wp2_with fail
    go_ret
    exact ⟨ret_bool HB.out.symm, hbb⟩
  ·have hn' : (n == 0) = false := by simp [hn0]
   have HB : Hid (baseB 4 n s l (rightL d l) = false) := by show _ = _; simp [baseB, hn0]
   clear hn0
   go_enter Tryz.func157, Tryz.ntmps157
   go_wp2_with fail
   go_ret
   exact ⟨ret_bool HB.out.symm, hbb⟩
 ·have f1 : (k == 1) = false := by simp [e1]
  have f2 : (k == 2) = false := by simp [e2]
  have f3 : (k == 3) = false := by simp [e3]
  have f4 : (k == 4) = false := by simp [e4]
  have HB : Hid (baseB k n s l (rightL d l) = false) := by show _ = _; simp [baseB, e1, e2, e3, e4]
  clear e1 e2 e3 e4
  go_enter Tryz.func157, Tryz.ntmps157
  go_wp2_with fail
  go_ret
  exact ⟨ret_bool HB.out.symm, hbb⟩
theorem rightWithin_any : ∀ d : Nat, d ≤ 100 → RightAt d
  | 0, h => right_of 0 h (rightList_of 0 h (fun d' e => by omega))
  | d + 1, h => right_of (d + 1) h (rightList_of (d + 1) h (fun d' e => by obtain rfl : d = d' := by omega
                                                                           exact rightWithin_any d (by omega)))
set_option maxRecDepth 100000 in
set_option maxHeartbeats 1000000 in
theorem right_any (x : V) (B : Nat) (w : World) (c0 c1 c2 c3 : Value) (hB : B ≤ w.heap.size) (hx : RepV B w x c0 c1 c2 c3) :
  Calls Tryz.prog 131 #[.agg #[c0, c1, c2, c3]] w fun e w' => e = .returned (.bool (rightV 4 x)) ∧ Below w.heap.size w w' := by
 have HR := Lib.hid (rightWithin_any 4 (by omega))
 obtain ⟨fa, fc, rfl, rfl, rfl, rfl⟩ := hx.form
 have HX := Lib.hid hx; clear hx
 go_enter Tryz.func131, Tryz.ntmps131
 go_wp2_with fail
 have hbb : Below w.heap.size w (w.alloc (.cells #[.int .i64 x.kind, .int .i64 x.num, .string x.text, .slice fa x.list.length fc] 50)) :=
  ((Below.refl _ w).alloc (Nat.le_refl _) _)
 refine (HR.out x B _ _ _ _ _ (by simp; omega) (RepV.below (fun j hj => hbb.block j (by omega)) _ HX.out)).mono ?_
 rintro e w' ⟨rfl, hb⟩
 go_wp2_with fail
 go_ret
 exact ⟨rfl, hbb.trans (hb.mono (by simp))⟩
end Go.Proofs.YtjohcnhiblfbnaaGreatDoor
namespace Go.Proofs.YtjohcnhiblfbnaaGreatDoor
open Go.RowKit
theorem alloc_new' (w : World) (o : Obj) : (w.alloc o).heap[w.heap.size]? = some o := by
 show (w.heap.push o)[w.heap.size]? = _
 simp
theorem cell_of_block' {w : World} {k i : Nat} {cs : Array Value} {t : TypeId} {fz : Nat × Nat} (h : w.heap[k]? = some (.cells cs t fz)) (v : Value) (hv : cs[i]? = some v) : w.cell? ⟨k, i, none⟩ = some v := by
 simp [World.cell?, h, hv]
theorem below_alloc (w : World) (o : Obj) : Below w.heap.size w (w.alloc o) := (Below.refl _ w).alloc (Nat.le_refl _) o
end Go.Proofs.YtjohcnhiblfbnaaGreatDoor
namespace Go.Proofs.YtjohcnhiblfbnaaGreatDoor
open Go.RowKit
def Boxed (w : World) (k : Nat) (c0 c1 c2 c3 : Value) : Prop := w.heap[k]? = some (.cells #[c0, c1, c2, c3] 50 (0, 0))
theorem Boxed.cells {w : World} {k : Nat} {c0 c1 c2 c3 : Value} (h : Boxed w k c0 c1 c2 c3) : w.cell? ⟨k, 0, none⟩ = some c0 ∧ w.cell? ⟨k, 1, none⟩ = some c1 ∧ w.cell? ⟨k, 2, none⟩ = some c2 ∧ w.cell? ⟨k, 3, none⟩ = some c3 :=
 ⟨cell_of_block' h _ rfl, cell_of_block' h _ rfl, cell_of_block' h _ rfl, cell_of_block' h _ rfl⟩
theorem Boxed.lt {w : World} {k : Nat} {c0 c1 c2 c3 : Value} (h : Boxed w k c0 c1 c2 c3) : k < w.heap.size := (Array.getElem?_eq_some_iff.1 h).1
theorem Boxed.on {w w' : World} {k : Nat} {c0 c1 c2 c3 : Value} (h : Boxed w k c0 c1 c2 c3) (hb : Below w.heap.size w w') : Boxed w' k c0 c1 c2 c3 := (hb.block k h.lt).trans h
theorem boxed_new (w : World) (c0 c1 c2 c3 : Value) : Boxed (w.alloc (.cells #[c0, c1, c2, c3] 50)) w.heap.size c0 c1 c2 c3 := alloc_new' _ _
theorem Below.step {w w1 w2 : World} (h : Below w.heap.size w w1) (h' : Below w1.heap.size w1 w2) : Below w.heap.size w w2 := h.trans (h'.mono h.size)
end Go.Proofs.YtjohcnhiblfbnaaGreatDoor
namespace Go.Proofs.YtjohcnhiblfbnaaGreatDoor
open Go.RowKit
def fname : Nat → List UInt8
 | 0 => [102, 95, 99, 111, 110, 115]
 | 1 => [102, 95, 97, 112, 112, 101, 110, 100]
 | 2 => [102, 95, 99, 111, 110, 99, 97, 116]
 | 3 => [102, 95, 109, 101, 109, 98, 101, 114]
 | 4 => [102, 95, 115, 105, 122, 101]
 | 5 => [102, 95, 102, 105, 114, 115, 116]
 | 6 => [102, 95, 108, 97, 115, 116]
 | 7 => [102, 95, 114, 101, 115, 116]
 | 8 => [102, 95, 114, 101, 118, 101, 114, 115, 101]
 | _ => []
def fnOf (s : ByteArray) : Nat :=
 if (s.toList == [102, 95, 99, 111, 110, 115]) = true then 0
 else if (s.toList == [102, 95, 97, 112, 112, 101, 110, 100]) = true then 1
 else if (s.toList == [102, 95, 99, 111, 110, 99, 97, 116]) = true then 2
 else if (s.toList == [102, 95, 109, 101, 109, 98, 101, 114]) = true then 3
 else if (s.toList == [102, 95, 115, 105, 122, 101]) = true then 4
 else if (s.toList == [102, 95, 102, 105, 114, 115, 116]) = true then 5
 else if (s.toList == [102, 95, 108, 97, 115, 116]) = true then 6
 else if (s.toList == [102, 95, 114, 101, 115, 116]) = true then 7
 else if (s.toList == [102, 95, 114, 101, 118, 101, 114, 115, 101]) = true then 8
 else 9
def fnArity : Nat → Int
 | 0 => 2
 | 1 => 2
 | 2 => 2
 | 3 => 2
 | 4 => 1
 | 5 => 1
 | 6 => 1
 | 7 => 1
 | 8 => 1
 | _ => -1
def fnList : Nat → Nat → Bool
 | 0, 0 => false | 0, 1 => true
 | 1, 0 => true | 1, 1 => false
 | 2, 0 => true | 2, 1 => true
 | 3, 0 => true | 3, 1 => false
 | 4, 0 => true | 4, 1 => false
 | 5, 0 => true | 5, 1 => false
 | 6, 0 => true | 6, 1 => false
 | 7, 0 => true | 7, 1 => false
 | 8, 0 => true | 8, 1 => false
 | _, _ => false
def fnDo : Nat → Value
 | 0 => .func (.func 184) #[] #[]
 | 1 => .func (.func 185) #[] #[]
 | 2 => .func (.func 186) #[] #[]
 | 3 => .func (.func 187) #[] #[]
 | 4 => .func (.func 188) #[] #[]
 | 5 => .func (.func 189) #[] #[]
 | 6 => .func (.func 190) #[] #[]
 | 7 => .func (.func 191) #[] #[]
 | 8 => .func (.func 192) #[] #[]
 | _ => .nilFunc
def FindPost (k : Nat) (w : World) (e : Ending) (w' : World) : Prop := e = .returned (.agg #[.int .i64 (fnArity k), .bool (fnList k 0), .bool (fnList k 1), fnDo k]) ∧ Below w.heap.size w w'
set_option maxRecDepth 100000 in
set_option maxHeartbeats 1000000 in
theorem find_0 (s : ByteArray) (w : World) (h0 : (s.toList == [102, 95, 99, 111, 110, 115]) = true) : Calls Tryz.prog 177 #[.string s] w (FindPost 0 w) := by
 go_enter Tryz.func177, Tryz.ntmps177
 go_wp2_with fail
 exact bodyPost_ret (v := .agg #[.int .i64 2, .bool false, .bool true, .func (.func 184) #[] #[]]) (by simp [results, Tryz.results177, go_sem]) rfl ⟨rfl, (Below.refl _ _).alloc (Nat.le_refl _) _⟩
set_option maxRecDepth 100000 in
set_option maxHeartbeats 1000000 in
theorem find_1 (s : ByteArray) (w : World) (h0 : (s.toList == [102, 95, 99, 111, 110, 115]) = false) (h1 : (s.toList == [102, 95, 97, 112, 112, 101, 110, 100]) = true) : Calls Tryz.prog 177 #[.string s] w (FindPost 1 w) := by
 go_enter Tryz.func177, Tryz.ntmps177
 go_wp2_with fail
 exact bodyPost_ret (v := .agg #[.int .i64 2, .bool true, .bool false, .func (.func 185) #[] #[]]) (by simp [results, Tryz.results177, go_sem]) rfl ⟨rfl, (Below.refl _ _).alloc (Nat.le_refl _) _⟩
set_option maxRecDepth 100000 in
set_option maxHeartbeats 1000000 in
theorem find_2 (s : ByteArray) (w : World) (h0 : (s.toList == [102, 95, 99, 111, 110, 115]) = false) (h1 : (s.toList == [102, 95, 97, 112, 112, 101, 110, 100]) = false) (h2 : (s.toList == [102, 95, 99, 111, 110, 99, 97, 116]) = true) : Calls Tryz.prog 177 #[.string s] w (FindPost 2 w) := by
 go_enter Tryz.func177, Tryz.ntmps177
 go_wp2_with fail
 exact bodyPost_ret (v := .agg #[.int .i64 2, .bool true, .bool true, .func (.func 186) #[] #[]]) (by simp [results, Tryz.results177, go_sem]) rfl ⟨rfl, (Below.refl _ _).alloc (Nat.le_refl _) _⟩
set_option maxRecDepth 100000 in
set_option maxHeartbeats 1000000 in
theorem find_3 (s : ByteArray) (w : World) (h0 : (s.toList == [102, 95, 99, 111, 110, 115]) = false) (h1 : (s.toList == [102, 95, 97, 112, 112, 101, 110, 100]) = false) (h2 : (s.toList == [102, 95, 99, 111, 110, 99, 97, 116]) = false) (h3 : (s.toList == [102, 95, 109, 101, 109, 98, 101, 114]) = true) : Calls Tryz.prog 177 #[.string s] w (FindPost 3 w) := by
 go_enter Tryz.func177, Tryz.ntmps177
 go_wp2_with fail
 exact bodyPost_ret (v := .agg #[.int .i64 2, .bool true, .bool false, .func (.func 187) #[] #[]]) (by simp [results, Tryz.results177, go_sem]) rfl ⟨rfl, (Below.refl _ _).alloc (Nat.le_refl _) _⟩
set_option maxRecDepth 100000 in
set_option maxHeartbeats 1000000 in
theorem find_4 (s : ByteArray) (w : World) (h0 : (s.toList == [102, 95, 99, 111, 110, 115]) = false) (h1 : (s.toList == [102, 95, 97, 112, 112, 101, 110, 100]) = false) (h2 : (s.toList == [102, 95, 99, 111, 110, 99, 97, 116]) = false) (h3 : (s.toList == [102, 95, 109, 101, 109, 98, 101, 114]) = false) (h4 : (s.toList == [102, 95, 115, 105, 122, 101]) = true) : Calls Tryz.prog 177 #[.string s] w (FindPost 4 w) := by
 go_enter Tryz.func177, Tryz.ntmps177
 go_wp2_with fail
 exact bodyPost_ret (v := .agg #[.int .i64 1, .bool true, .bool false, .func (.func 188) #[] #[]]) (by simp [results, Tryz.results177, go_sem]) rfl ⟨rfl, (Below.refl _ _).alloc (Nat.le_refl _) _⟩
set_option maxRecDepth 100000 in
set_option maxHeartbeats 1000000 in
theorem find_5 (s : ByteArray) (w : World) (h0 : (s.toList == [102, 95, 99, 111, 110, 115]) = false) (h1 : (s.toList == [102, 95, 97, 112, 112, 101, 110, 100]) = false) (h2 : (s.toList == [102, 95, 99, 111, 110, 99, 97, 116]) = false) (h3 : (s.toList == [102, 95, 109, 101, 109, 98, 101, 114]) = false) (h4 : (s.toList == [102, 95, 115, 105, 122, 101]) = false) (h5 : (s.toList == [102, 95, 102, 105, 114, 115, 116]) = true) : Calls Tryz.prog 177 #[.string s] w (FindPost 5 w) := by
 go_enter Tryz.func177, Tryz.ntmps177
 go_wp2_with fail
 exact bodyPost_ret (v := .agg #[.int .i64 1, .bool true, .bool false, .func (.func 189) #[] #[]]) (by simp [results, Tryz.results177, go_sem]) rfl ⟨rfl, (Below.refl _ _).alloc (Nat.le_refl _) _⟩
set_option maxRecDepth 100000 in
set_option maxHeartbeats 1000000 in
theorem find_6 (s : ByteArray) (w : World) (h0 : (s.toList == [102, 95, 99, 111, 110, 115]) = false) (h1 : (s.toList == [102, 95, 97, 112, 112, 101, 110, 100]) = false) (h2 : (s.toList == [102, 95, 99, 111, 110, 99, 97, 116]) = false) (h3 : (s.toList == [102, 95, 109, 101, 109, 98, 101, 114]) = false) (h4 : (s.toList == [102, 95, 115, 105, 122, 101]) = false) (h5 : (s.toList == [102, 95, 102, 105, 114, 115, 116]) = false) (h6 : (s.toList == [102, 95, 108, 97, 115, 116]) = true) : Calls Tryz.prog 177 #[.string s] w (FindPost 6 w) := by
 go_enter Tryz.func177, Tryz.ntmps177
 go_wp2_with fail
 exact bodyPost_ret (v := .agg #[.int .i64 1, .bool true, .bool false, .func (.func 190) #[] #[]]) (by simp [results, Tryz.results177, go_sem]) rfl ⟨rfl, (Below.refl _ _).alloc (Nat.le_refl _) _⟩
set_option maxRecDepth 100000 in
set_option maxHeartbeats 1000000 in
theorem find_7 (s : ByteArray) (w : World) (h0 : (s.toList == [102, 95, 99, 111, 110, 115]) = false) (h1 : (s.toList == [102, 95, 97, 112, 112, 101, 110, 100]) = false) (h2 : (s.toList == [102, 95, 99, 111, 110, 99, 97, 116]) = false) (h3 : (s.toList == [102, 95, 109, 101, 109, 98, 101, 114]) = false) (h4 : (s.toList == [102, 95, 115, 105, 122, 101]) = false) (h5 : (s.toList == [102, 95, 102, 105, 114, 115, 116]) = false) (h6 : (s.toList == [102, 95, 108, 97, 115, 116]) = false) (h7 : (s.toList == [102, 95, 114, 101, 115, 116]) = true) : Calls Tryz.prog 177 #[.string s] w (FindPost 7 w) := by
 go_enter Tryz.func177, Tryz.ntmps177
 go_wp2_with fail
 exact bodyPost_ret (v := .agg #[.int .i64 1, .bool true, .bool false, .func (.func 191) #[] #[]]) (by simp [results, Tryz.results177, go_sem]) rfl ⟨rfl, (Below.refl _ _).alloc (Nat.le_refl _) _⟩
set_option maxRecDepth 100000 in
set_option maxHeartbeats 1000000 in
theorem find_8 (s : ByteArray) (w : World) (h0 : (s.toList == [102, 95, 99, 111, 110, 115]) = false) (h1 : (s.toList == [102, 95, 97, 112, 112, 101, 110, 100]) = false) (h2 : (s.toList == [102, 95, 99, 111, 110, 99, 97, 116]) = false) (h3 : (s.toList == [102, 95, 109, 101, 109, 98, 101, 114]) = false) (h4 : (s.toList == [102, 95, 115, 105, 122, 101]) = false) (h5 : (s.toList == [102, 95, 102, 105, 114, 115, 116]) = false) (h6 : (s.toList == [102, 95, 108, 97, 115, 116]) = false) (h7 : (s.toList == [102, 95, 114, 101, 115, 116]) = false) (h8 : (s.toList == [102, 95, 114, 101, 118, 101, 114, 115, 101]) = true) : Calls Tryz.prog 177 #[.string s] w (FindPost 8 w) := by
 go_enter Tryz.func177, Tryz.ntmps177
 go_wp2_with fail
 exact bodyPost_ret (v := .agg #[.int .i64 1, .bool true, .bool false, .func (.func 192) #[] #[]]) (by simp [results, Tryz.results177, go_sem]) rfl ⟨rfl, (Below.refl _ _).alloc (Nat.le_refl _) _⟩
set_option maxRecDepth 100000 in
set_option maxHeartbeats 1000000 in
theorem find_9 (s : ByteArray) (w : World) (h0 : (s.toList == [102, 95, 99, 111, 110, 115]) = false) (h1 : (s.toList == [102, 95, 97, 112, 112, 101, 110, 100]) = false) (h2 : (s.toList == [102, 95, 99, 111, 110, 99, 97, 116]) = false) (h3 : (s.toList == [102, 95, 109, 101, 109, 98, 101, 114]) = false) (h4 : (s.toList == [102, 95, 115, 105, 122, 101]) = false) (h5 : (s.toList == [102, 95, 102, 105, 114, 115, 116]) = false) (h6 : (s.toList == [102, 95, 108, 97, 115, 116]) = false) (h7 : (s.toList == [102, 95, 114, 101, 115, 116]) = false) (h8 : (s.toList == [102, 95, 114, 101, 118, 101, 114, 115, 101]) = false) : Calls Tryz.prog 177 #[.string s] w (FindPost 9 w) := by
 go_enter Tryz.func177, Tryz.ntmps177
 go_wp2_with fail
 exact bodyPost_ret (v := .agg #[.int .i64 (-1), .bool false, .bool false, .nilFunc]) (by simp [results, Tryz.results177, go_sem]) rfl ⟨rfl, (Below.refl _ _).alloc (Nat.le_refl _) _⟩
theorem find_any (s : ByteArray) (w : World) : Calls Tryz.prog 177 #[.string s] w (FindPost (fnOf s) w) := by
 unfold fnOf
 cases h0 : (s.toList == [102, 95, 99, 111, 110, 115]) with
 | true => rw [if_pos rfl]; exact find_0 s w h0
 | false =>
 rw [if_neg (by decide)]
 cases h1 : (s.toList == [102, 95, 97, 112, 112, 101, 110, 100]) with
 | true => rw [if_pos rfl]; exact find_1 s w h0 h1
 | false =>
 rw [if_neg (by decide)]
 cases h2 : (s.toList == [102, 95, 99, 111, 110, 99, 97, 116]) with
 | true => rw [if_pos rfl]; exact find_2 s w h0 h1 h2
 | false =>
 rw [if_neg (by decide)]
 cases h3 : (s.toList == [102, 95, 109, 101, 109, 98, 101, 114]) with
 | true => rw [if_pos rfl]; exact find_3 s w h0 h1 h2 h3
 | false =>
 rw [if_neg (by decide)]
 cases h4 : (s.toList == [102, 95, 115, 105, 122, 101]) with
 | true => rw [if_pos rfl]; exact find_4 s w h0 h1 h2 h3 h4
 | false =>
 rw [if_neg (by decide)]
 cases h5 : (s.toList == [102, 95, 102, 105, 114, 115, 116]) with
 | true => rw [if_pos rfl]; exact find_5 s w h0 h1 h2 h3 h4 h5
 | false =>
 rw [if_neg (by decide)]
 cases h6 : (s.toList == [102, 95, 108, 97, 115, 116]) with
 | true => rw [if_pos rfl]; exact find_6 s w h0 h1 h2 h3 h4 h5 h6
 | false =>
 rw [if_neg (by decide)]
 cases h7 : (s.toList == [102, 95, 114, 101, 115, 116]) with
 | true => rw [if_pos rfl]; exact find_7 s w h0 h1 h2 h3 h4 h5 h6 h7
 | false =>
 rw [if_neg (by decide)]
 cases h8 : (s.toList == [102, 95, 114, 101, 118, 101, 114, 115, 101]) with
 | true => rw [if_pos rfl]; exact find_8 s w h0 h1 h2 h3 h4 h5 h6 h7 h8
 | false =>
 rw [if_neg (by decide)]
 exact find_9 s w h0 h1 h2 h3 h4 h5 h6 h7 h8
theorem fnArity_range (k : Nat) : fnArity k = 2 ∨ fnArity k = 1 ∨ fnArity k = -1 := by
 unfold fnArity; split <;> simp
theorem field_arity (a b c d : Value) (w : World) : Sem.run Tryz.prog (Instr.field 198 (.agg #[a, b, c, d]) 0) w = .ok a w := by
 kernel_rfl
set_option maxRecDepth 100000 in
set_option maxHeartbeats 1000000 in
theorem arity_any (s : ByteArray) (w : World) : Calls Tryz.prog 164 #[.string s] w fun e w' => e = .returned (.int .i64 (fnArity (fnOf s))) ∧ Below w.heap.size w w' := by
 go_enter Tryz.func164, Tryz.ntmps164
 go_wp2_with fail
 refine (find_any s w).mono ?_
 rintro e w1 ⟨rfl, hb⟩
 have hf := field_arity
 go_wp2_with fail
 go_ret
 exact ⟨rfl, hb⟩
end Go.Proofs.YtjohcnhiblfbnaaGreatDoor
namespace Go.Proofs.YtjohcnhiblfbnaaGreatDoor
open Go.RowKit
def noneB (x : V) : Bool := x.kind == 0 && (x.num == 0 && (x.text.toList.isEmpty && x.list.isEmpty))
def fnB (s : ByteArray) : Bool := decide (0 ≤ fnArity (fnOf s))
def declB (s : ByteArray) : Bool := s.toList == [109, 97, 116, 101, 114, 105, 97, 108, 105, 122, 101]
def relB (s : ByteArray) : Bool := nameB s && (!fnB s && !declB s)
def valB (x : V) : Bool := rightV 4 x && !(x.kind == 3 && fnB x.text)
def opB (s : ByteArray) : Bool := s.toList == [43] || (s.toList == [45] || s.toList == [42])
def cmpB (s : ByteArray) : Bool := s.toList == [61, 61] || (s.toList == [33, 61] || (s.toList == [60] || (s.toList == [60, 61] || (s.toList == [62] || s.toList == [62, 61]))))
def listB {α : Type} (least most : Int) (R : α → Bool) (l : List α) : Bool := decide (least ≤ (l.length : Int)) && (decide ((l.length : Int) ≤ most) && l.all R)
def rightM : Nat → Tm → Bool
 | 0, _ => false
 | d + 1, .mk k s x l =>
  if k = 1 then varB s && (noneB x && l.isEmpty)
  else if k = 2 then s.toList.isEmpty && (valB x && l.isEmpty)
  else if k = 3 then noneB x && listB (fnArity (fnOf s)) (fnArity (fnOf s)) (rightM d) l
  else if k = 4 then opB s && (noneB x && listB 2 2 (rightM d) l)
  else false
def placeB (t : Tm) : Bool := t.kind == 1 || (t.kind == 2 && t.val.kind == 3)
def headB (l : List Tm) : Bool := match l with
 | [] => false
 | t :: _ => placeB t
def atomB (s : ByteArray) (l : List Tm) : Bool := relB s && (listB 1 8 (rightM 8) l && headB l)
def aggNameB (s : ByteArray) : Bool := s.toList == [109, 105, 110] || (s.toList == [109, 97, 120] || s.toList == [99, 111, 117, 110, 116])
def kindAt (l : List Tm) (i : Int) : Int := match l[i.toNat]? with
 | some t => t.kind
 | none => 0
def aggB (r : Ru) : Bool :=
 if r.agg.toList.isEmpty = true then r.at' == 0
 else aggNameB r.agg && (decide (1 ≤ r.at') && (decide (r.at' < (r.args.length : Int)) && kindAt r.args r.at' == 1))
def liB (x : Li) : Bool :=
 if x.kind = 1 then atomB x.name x.args
 else if x.kind = 2 then atomB x.name x.args
 else if x.kind = 3 then cmpB x.name && listB 2 2 (rightM 8) x.args
 else if x.kind = 4 then varB x.name && listB 1 1 (rightM 8) x.args
 else false
def ruB (r : Ru) : Bool := relB r.label && (atomB r.head r.args && (aggB r && listB 1 8 liB r.body))
theorem listB_few {α : Type} {least most : Int} {R : α → Bool} {l : List α} (h : (l.length : Int) < least) : listB least most R l = false := by
 unfold listB; rw [decide_eq_false (by omega)]; rfl
theorem listB_many {α : Type} {least most : Int} {R : α → Bool} {l : List α} (h : most < (l.length : Int)) : listB least most R l = false := by
 unfold listB; rw [decide_eq_false (p := (l.length : Int) ≤ most) (by omega)]; simp
theorem listB_some {α : Type} {least most : Int} {R : α → Bool} {l : List α} (h1 : least ≤ (l.length : Int)) (h2 : (l.length : Int) ≤ most) : listB least most R l = l.all R := by
 unfold listB; rw [decide_eq_true h1, decide_eq_true h2]; rfl
theorem listB_bounds {α : Type} {least most : Int} {R : α → Bool} {l : List α} (h : listB least most R l = true) : least ≤ (l.length : Int) ∧ (l.length : Int) ≤ most ∧ ∀ x ∈ l, R x = true := by
 unfold listB at h
 simp only [Bool.and_eq_true, decide_eq_true_eq, List.all_eq_true] at h
 exact ⟨h.1, h.2.1, h.2.2⟩
theorem rightM_zero (t : Tm) : rightM 0 t = false := by rw [rightM]
theorem rightM_succ (d : Nat) (k : Int) (s : ByteArray) (x : V) (l : List Tm) : rightM (d + 1) (.mk k s x l) =
  if k = 1 then varB s && (noneB x && l.isEmpty)
  else if k = 2 then s.toList.isEmpty && (valB x && l.isEmpty)
  else if k = 3 then noneB x && listB (fnArity (fnOf s)) (fnArity (fnOf s)) (rightM d) l
  else if k = 4 then opB s && (noneB x && listB 2 2 (rightM d) l)
  else false := by rw [rightM]
end Go.Proofs.YtjohcnhiblfbnaaGreatDoor
namespace Go.Proofs.YtjohcnhiblfbnaaGreatDoor
open Go.RowKit
theorem RepLi.form {S : Nat → Prop} {w : World} {x : Li} {c0 c1 c2 : Value} (h : RepLi S w x c0 c1 c2) : ∃ (ga : Option Addr) (gc : Nat), c0 = .int .i64 x.kind ∧ c1 = .string x.name ∧ c2 = .slice ga x.args.length gc := by
 obtain ⟨h0, h1, -, -, h4⟩ := h
 obtain ⟨ga, gc, e⟩ := SlG.form h4
 exact ⟨ga, gc, h0, h1, e⟩
theorem RepLis.at {S : Nat → Prop} {w : World} {l : List Li} {a : Option Addr} {len cap : Nat} (h : RepLis S w l (.slice a len cap)) (i : Nat) (hi : i < l.length) :
  len = l.length ∧ l.length ≤ cap ∧ ∃ (b o : Nat) (ga : Option Addr) (gc : Nat), a = some ⟨b, o, none⟩ ∧ S b ∧ w.cell? ⟨b, o + i * 3, none⟩ = some (.int .i64 l[i].kind) ∧ w.cell? ⟨b, o + i * 3 + 1, none⟩ = some (.string l[i].name) ∧ w.cell? ⟨b, o + i * 3 + 2, none⟩ = some (.slice ga l[i].args.length gc) ∧ RepLi S w l[i] (.int .i64 l[i].kind) (.string l[i].name) (.slice ga l[i].args.length gc) := by
 obtain ⟨h1, h2, b, o, h3, h4, c, hc, hr⟩ := SlG.at h i hi
 obtain ⟨ga, gc, e0, e1, e2⟩ := hr.form
 rw [e0, e1, e2] at hr
 exact ⟨h1, h2, b, o, ga, gc, h3, h4, by rw [← e0]; exact hc 0 (by omega), by rw [← e1]; exact hc 1 (by omega), by rw [← e2]; exact hc 2 (by omega), hr⟩
theorem RepDe.form {S : Nat → Prop} {w : World} {x : De} {c0 c1 : Value} (h : RepDe S w x c0 c1) : c0 = .string x.name ∧ c1 = .int .i64 x.arity := by
 exact ⟨h.1, h.2.1⟩
theorem RepDes.at {S : Nat → Prop} {w : World} {l : List De} {a : Option Addr} {len cap : Nat} (h : RepDes S w l (.slice a len cap)) (i : Nat) (hi : i < l.length) :
  len = l.length ∧ l.length ≤ cap ∧ ∃ (b o : Nat) , a = some ⟨b, o, none⟩ ∧ S b ∧ w.cell? ⟨b, o + i * 2, none⟩ = some (.string l[i].name) ∧ w.cell? ⟨b, o + i * 2 + 1, none⟩ = some (.int .i64 l[i].arity) ∧ RepDe S w l[i] (.string l[i].name) (.int .i64 l[i].arity) := by
 obtain ⟨h1, h2, b, o, h3, h4, c, hc, hr⟩ := SlG.at h i hi
 obtain ⟨e0, e1⟩ := hr.form
 rw [e0, e1] at hr
 exact ⟨h1, h2, b, o, h3, h4, by rw [← e0]; exact hc 0 (by omega), by rw [← e1]; exact hc 1 (by omega), hr⟩
theorem RepFa.form {S : Nat → Prop} {w : World} {x : Fa} {c0 c1 : Value} (h : RepFa S w x c0 c1) : ∃ (ga : Option Addr) (gc : Nat), c0 = .string x.name ∧ c1 = .slice ga x.args.length gc := by
 obtain ⟨ga, -, -, gc, e, -⟩ := id h.2.2
 exact ⟨ga, gc, h.1, e⟩
theorem RepRu.form {S : Nat → Prop} {w : World} {x : Ru} {c0 c1 c2 c3 c4 c5 : Value} (h : RepRu S w x c0 c1 c2 c3 c4 c5) : ∃ (fa : Option Addr) (fc : Nat) (ga : Option Addr) (gc : Nat), c0 = .string x.label ∧ c1 = .string x.head ∧ c2 = .slice fa x.args.length fc ∧ c3 = .string x.agg ∧ c4 = .int .i64 x.at' ∧ c5 = .slice ga x.body.length gc := by
 obtain ⟨h0, h1, h3, h4, -, -, -, -, h8, h9⟩ := h
 obtain ⟨fa, fc, e⟩ := SlG.form h8
 obtain ⟨ga, gc, e'⟩ := SlG.form h9
 exact ⟨fa, fc, ga, gc, h0, h1, e, h3, h4, e'⟩
theorem RepRus.at {S : Nat → Prop} {w : World} {l : List Ru} {a : Option Addr} {len cap : Nat} (h : RepRus S w l (.slice a len cap)) (i : Nat) (hi : i < l.length) :
  len = l.length ∧ l.length ≤ cap ∧ ∃ (b o : Nat) (fa : Option Addr) (fc : Nat) (ga : Option Addr) (gc : Nat), a = some ⟨b, o, none⟩ ∧ S b ∧ w.cell? ⟨b, o + i * 6, none⟩ = some (.string l[i].label) ∧ w.cell? ⟨b, o + i * 6 + 1, none⟩ = some (.string l[i].head) ∧ w.cell? ⟨b, o + i * 6 + 2, none⟩ = some (.slice fa l[i].args.length fc) ∧ w.cell? ⟨b, o + i * 6 + 3, none⟩ = some (.string l[i].agg) ∧ w.cell? ⟨b, o + i * 6 + 4, none⟩ = some (.int .i64 l[i].at') ∧ w.cell? ⟨b, o + i * 6 + 5, none⟩ = some (.slice ga l[i].body.length gc) ∧ RepRu S w l[i] (.string l[i].label) (.string l[i].head) (.slice fa l[i].args.length fc) (.string l[i].agg) (.int .i64 l[i].at') (.slice ga l[i].body.length gc) := by
 obtain ⟨h1, h2, b, o, h3, h4, c, hc, hr⟩ := SlG.at h i hi
 obtain ⟨fa, fc, ga, gc, e0, e1, e2, e3, e4, e5⟩ := hr.form
 rw [e0, e1, e2, e3, e4, e5] at hr
 exact ⟨h1, h2, b, o, fa, fc, ga, gc, h3, h4, by rw [← e0]; exact hc 0 (by omega), by rw [← e1]; exact hc 1 (by omega), by rw [← e2]; exact hc 2 (by omega), by rw [← e3]; exact hc 3 (by omega), by rw [← e4]; exact hc 4 (by omega), by rw [← e5]; exact hc 5 (by omega), hr⟩
end Go.Proofs.YtjohcnhiblfbnaaGreatDoor
