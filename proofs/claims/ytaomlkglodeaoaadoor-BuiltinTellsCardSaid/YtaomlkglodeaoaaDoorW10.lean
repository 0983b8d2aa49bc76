/-
  The first calls of layer 2 whose answers are fixed ('awake'): true.
-/
import Derived.Test.YtaomlkglodeaoaaDoorW09
import Derived.Deep.RegionHeld3
import Derived.Deep.RegionLaw
import Derived.Deep.DeepCutAuto
import Derived.Handy
namespace Go.Proofs.YtaomlkglodeaoaaDoor
open Go.RowKit

/-- A slice of two values that the call lays. -/
theorem two_slice {S : Nat → Prop} {w : World} {x y : V} {c0 c1 c2 c3 d0 d1 d2 d3 : Value} (hx : RepG S w x c0 c1 c2 c3) (hy : RepG S w y d0 d1 d2 d3) (hS : ∀ k, S k → k < w.heap.size) :
    RepL (w.heap.size + 1) (w.alloc (.cells #[c0, c1, c2, c3, d0, d1, d2, d3] 24)) [x, y] (.slice (some ⟨w.heap.size, 0, none⟩) 2 2) := by
  have hr : RepRow (fun b => b < w.heap.size + 1) (w.alloc (.cells #[c0, c1, c2, c3, d0, d1, d2, d3] 24)) [x, y] #[c0, c1, c2, c3, d0, d1, d2, d3] := by
    intro i hi
    match i, hi with
    | 0, _ => exact ⟨c0, c1, c2, c3, rfl, rfl, rfl, rfl, hx.on (fun b hb => by have := hS b hb; omega) (fun b hb => Below.heap_alloc _ _ _ (hS b hb))⟩
    | 1, _ => exact ⟨d0, d1, d2, d3, rfl, rfl, rfl, rfl, hy.on (fun b hb => by have := hS b hb; omega) (fun b hb => Below.heap_alloc _ _ _ (hS b hb))⟩
  exact hr.slice (alloc_new' _ _) (Nat.lt_succ_self _) (Nat.le_refl _) (by simp)

theorem name_at (k : Nat) (hk : k < 9) : fnOf ⟨(fname k).toArray⟩ = k := by
  match k, hk with
  | 0, _ => simp [fnOf, fname, Lib.toList_data]
  | 1, _ => simp [fnOf, fname, Lib.toList_data]
  | 2, _ => simp [fnOf, fname, Lib.toList_data]
  | 3, _ => simp [fnOf, fname, Lib.toList_data]
  | 4, _ => simp [fnOf, fname, Lib.toList_data]
  | 5, _ => simp [fnOf, fname, Lib.toList_data]
  | 6, _ => simp [fnOf, fname, Lib.toList_data]
  | 7, _ => simp [fnOf, fname, Lib.toList_data]
  | 8, _ => simp [fnOf, fname, Lib.toList_data]
theorem call_at (k : Nat) (hk : k < 9) (args : List V) (B : Nat) (w : World) (a : Value) (hB : B ≤ w.heap.size) (ha : RepL B w args a) :
    Calls Tryd.prog 5 #[.string ⟨(fname k).toArray⟩, a] w (CallPost (callV k args) w) := by
  have := call_any ⟨(fname k).toArray⟩ args B w a hB ha
  rw [name_at k hk] at this
  exact this

theorem right_listV (d : Nat) (l : List V) : rightV (d + 1) (listV l) = (decide (l.length ≤ 16) && l.all (rightV d)) := by
  rw [listV, rightV_mk, baseB, if_neg (by decide), if_neg (by decide), if_neg (by decide), if_pos rfl, empty_none]; rfl
theorem right_numV (d : Nat) (n : Int) : rightV d (numV n) = (decide (-2147483647 ≤ n) && decide (n ≤ 2147483647)) := by
  rw [numV, rightV_mk, baseB, if_pos rfl, empty_none]; rfl
theorem aw_one : rightV 4 (listV [numV 2]) = true := by rw [right_listV]; simp [right_numV]
theorem aw_two : rightV 4 (listV [numV 1, numV 2]) = true := by rw [right_listV]; simp [right_numV]
theorem aw_cons : callV 0 [numV 1, listV [numV 2]] = some (listV [numV 1, numV 2]) := by
  have h1 : rightV 4 (numV 1) = true := by rw [right_numV]; decide
  have ht : takesB 0 [numV 1, listV [numV 2]] = true := by
    simp [takesB, argB, fnArity, fnList, h1, listV, V.kind]
    exact aw_one
  unfold callV
  rw [if_pos ⟨ht, aw_two⟩]
  rfl
theorem cmp_num (n m : Int) : cmpV (numV n) (numV m) = Lib.compareInt n m := by
  rw [numV, numV, cmpV, if_neg (by simp), if_pos rfl]
theorem aw_member : callV 3 [listV [numV 1, numV 2], numV 3] = some (numV 0) := by
  have h1 : rightV 4 (numV 3) = true := by rw [right_numV]; decide
  have h0 : rightV 4 (numV 0) = true := by rw [right_numV]; decide
  have ht : takesB 3 [listV [numV 1, numV 2], numV 3] = true := by
    simp [takesB, argB, fnArity, fnList, h1, listV, V.kind]
    exact aw_two
  have hm : doV 3 [listV [numV 1, numV 2], numV 3] = numV 0 := by
    have : memZ [numV 1, numV 2] (numV 3) = 0 := by
      simp [memZ, cmp_num, Lib.compareInt]
    show numV (memZ [numV 1, numV 2] (numV 3)) = numV 0
    rw [this]
  unfold callV
  rw [hm, if_pos ⟨ht, h0⟩]
theorem aw_op : opZ ⟨#[43]⟩ (numV 2147483647) (numV 1) = none := by
  have h1 : rightV 4 (numV 2147483647) = true := by rw [right_numV]; decide
  have h2 : rightV 4 (numV 1) = true := by rw [right_numV]; decide
  have h3 : rightV 4 (numV 2147483648) = false := by rw [right_numV]; decide
  have hr : reckonZ ⟨#[43]⟩ (numV 2147483647).num (numV 1).num = some 2147483648 := by
    simp [reckonZ, Lib.toList_data, numV, V.num]
  rw [opZ, if_pos ⟨by rw [numB, h1]; rfl, by rw [numB, h2]; rfl⟩, hr]
  show (if rightV 4 (numV 2147483648) = true then some 2147483648 else none) = none
  rw [h3]; rfl
theorem aw_test : testB ⟨#[60]⟩ (numV 1) (numV 2) = true := by
  have h1 : rightV 4 (numV 1) = true := by rw [right_numV]; decide
  have h2 : rightV 4 (numV 2) = true := by rw [right_numV]; decide
  rw [testB, h1, h2, cmp_num]
  simp [tstZ, Lib.toList_data, Lib.compareInt]
theorem aw_print : printB (listV [numV 1, numV 2]) = [91, 49, 44, 50, 93] := by
  rw [printB, if_pos aw_two]
  have h1 : Lib.itoa 1 = [49] := by simp [Lib.itoa, Lib.decDigits_one (i := 1) (by omega)]
  have h2 : Lib.itoa 2 = [50] := by simp [Lib.itoa, Lib.decDigits_one (i := 2) (by omega)]
  simp [listV, numV, prV, prL, h1, h2]
theorem aw_zero : printB (numV 0) = [48] := by
  have h0 : rightV 4 (numV 0) = true := by rw [right_numV]; decide
  rw [printB, if_pos h0]
  have h1 : Lib.itoa 0 = [48] := by simp [Lib.itoa, Lib.decDigits_one (i := 0) (by omega)]
  simp [numV, prV, h1]

end Go.Proofs.YtaomlkglodeaoaaDoor

/-
  The first calls of layer 2 whose answers are fixed ('awake'): the walk.
-/
namespace Go.Proofs.YtaomlkglodeaoaaDoor
open Go.RowKit

theorem one64 : I64 1 := ⟨by omega, by omega⟩
theorem two64 : I64 2 := ⟨by omega, by omega⟩
theorem three64 : I64 3 := ⟨by omega, by omega⟩
theorem most64 : I64 2147483647 := ⟨by omega, by omega⟩

theorem stands_two (w : World) (a o : Obj) : Below w.heap.size w ((w.alloc a).alloc o) := ((Below.refl _ w).alloc (Nat.le_refl _) a).alloc (by simp) o
theorem alloc_two (w : World) (a o : Obj) : ((w.alloc a).alloc o).heap[w.heap.size + 1]? = some o := by
  have := alloc_new' (w.alloc a) o
  rw [World.size_alloc] at this
  exact this
theorem alloc_under (w : World) (o a : Obj) : ((w.alloc o).alloc a).heap[w.heap.size]? = some o := by
  rw [Below.heap_alloc _ _ _ (by simp)]
  exact alloc_new' w o
/-- A row of one, of two values, wherever it lies. -/
theorem one_in {S : Nat → Prop} {w : World} {b : Nat} {x : V} {c0 c1 c2 c3 : Value} (hb : w.heap[b]? = some (.cells #[c0, c1, c2, c3] 24 (0, 0))) (hx : RepG S w x c0 c1 c2 c3) (hS : ∀ k, S k → k < w.heap.size) : RepL w.heap.size w [x] (.slice (some ⟨b, 0, none⟩) 1 1) := by
  have hr : RepRow (fun b => b < w.heap.size) w [x] #[c0, c1, c2, c3] := by
    intro i hi
    obtain rfl : i = 0 := by simpa using hi
    exact ⟨c0, c1, c2, c3, rfl, rfl, rfl, rfl, hx.on hS (fun _ _ => rfl)⟩
  exact hr.slice hb (Array.getElem?_eq_some_iff.1 hb).1 (Nat.le_refl _) (by simp)
theorem two_in {S : Nat → Prop} {w v : World} {b : Nat} {x y : V} {c0 c1 c2 c3 d0 d1 d2 d3 : Value} (hb : w.heap[b]? = some (.cells #[c0, c1, c2, c3, d0, d1, d2, d3] 24 (0, 0))) (hv : Below v.heap.size v w) (hx : RepG S v x c0 c1 c2 c3) (hy : RepG S v y d0 d1 d2 d3) (hS : ∀ k, S k → k < v.heap.size) : RepL w.heap.size w [x, y] (.slice (some ⟨b, 0, none⟩) 2 2) := by
  have hr : RepRow (fun b => b < w.heap.size) w [x, y] #[c0, c1, c2, c3, d0, d1, d2, d3] := by
    intro i hi
    match i, hi with
    | 0, _ => exact ⟨c0, c1, c2, c3, rfl, rfl, rfl, rfl, hx.on (fun k hk => Nat.lt_of_lt_of_le (hS k hk) hv.size) (fun k hk => hv.block k (hS k hk))⟩
    | 1, _ => exact ⟨d0, d1, d2, d3, rfl, rfl, rfl, rfl, hy.on (fun k hk => Nat.lt_of_lt_of_le (hS k hk) hv.size) (fun k hk => hv.block k (hS k hk))⟩
  exact hr.slice hb (Array.getElem?_eq_some_iff.1 hb).1 (Nat.le_refl _) (by simp)
/-- A variable that holds a value; all that lay in W stands. -/
def HoldsAt (x : V) (W : World) (s : Value) (wx : World) : Prop := ∃ (bl : Nat) (fa : Option Addr) (fc : Nat), s = .pointer (some ⟨bl, 0, none⟩) ∧ Boxed wx bl (.int .i64 x.kind) (.int .i64 x.num) (.string x.text) (.slice fa x.list.length fc) ∧ RepV wx.heap.size wx x (.int .i64 x.kind) (.int .i64 x.num) (.string x.text) (.slice fa x.list.length fc) ∧ Below W.heap.size W wx
/-- A value that a call handed back, in a variable that is laid behind it, or was laid ahead of it. -/
theorem holds_new {W w3 : World} {S : Nat → Prop} {x : V} {fa : Option Addr} {fc : Nat} (hr : RepG S w3 x (.int .i64 x.kind) (.int .i64 x.num) (.string x.text) (.slice fa x.list.length fc)) (hS : ∀ b, S b → b < w3.heap.size) (hk : Below W.heap.size W w3) :
    HoldsAt x W (.pointer (some ⟨w3.heap.size, 0, none⟩)) (w3.alloc (.cells #[.int .i64 x.kind, .int .i64 x.num, .string x.text, .slice fa x.list.length fc] 24)) :=
  ⟨_, fa, fc, rfl, boxed_new _ _ _ _ _, RepG.on (fun b hb => by have := hS b hb; simp; omega) (fun b hb => Below.heap_alloc _ _ _ (hS b hb)) x hr, hk.alloc hk.size _⟩
theorem holds_set {W w3 : World} {S : Nat → Prop} {bl : Nat} {x : V} {a0 a1 a2 a3 : Value} {fa : Option Addr} {fc : Nat} (hr : RepG S w3 x (.int .i64 x.kind) (.int .i64 x.num) (.string x.text) (.slice fa x.list.length fc)) (hx : Boxed w3 bl a0 a1 a2 a3) (hk : Below W.heap.size W w3) (hS : ∀ b, S b → b < w3.heap.size ∧ b ≠ bl) (hbl : W.heap.size ≤ bl) :
    HoldsAt x W (.pointer (some ⟨bl, 0, none⟩)) ((((w3.setCell ⟨bl, 0, none⟩ (.int .i64 x.kind)).setCell ⟨bl, 1, none⟩ (.int .i64 x.num)).setCell ⟨bl, 2, none⟩ (.string x.text)).setCell ⟨bl, 3, none⟩ (.slice fa x.list.length fc)) :=
  ⟨bl, fa, fc, rfl, heap_setCell_same _ _ _ _ _ _ (heap_setCell_same _ _ _ _ _ _ (heap_setCell_same _ _ _ _ _ _ (heap_setCell_same _ _ _ _ _ _ hx))), RepG.past4 hr bl (fun h => (hS bl h).2 rfl) (fun b h => (hS b h).1) _ _ _ _, stored4 hk bl hbl _ _ _ _⟩
theorem boxCells {W w' : World} {k : Nat} {c0 c1 c2 c3 : Value} (h : Boxed W k c0 c1 c2 c3) (hb : Below W.heap.size W w') : w'.cell? ⟨k, 0, none⟩ = some c0 ∧ w'.cell? ⟨k, 1, none⟩ = some c1 ∧ w'.cell? ⟨k, 2, none⟩ = some c2 ∧ w'.cell? ⟨k, 3, none⟩ = some c3 := (h.on hb).cells
theorem belowAlloc {W w' : World} (hb : Below W.heap.size W w') (o : Obj) : Below W.heap.size W (w'.alloc o) := hb.alloc hb.size o

set_option maxRecDepth 100000 in
set_option maxHeartbeats 8000000 in
theorem awake2_any (w : World) (hg : 0 < w.heap.size) (htab : TabOk w) :
    Calls Tryd.prog 4 #[] w fun e w' => e = .returned (.bool true) ∧ Below w.heap.size w w' := by
  have HT := Lib.hid htab; clear htab
  go_enter Tryd.func4, Tryd.ntmps4
  go_wp2_with fail
  refine (number_any _ _).mono ?_
  rintro e w1 ⟨rfl, b1⟩
  go_wp2_with fail
  have o2 := boxed_new w1 (.int .i64 1) (.int .i64 1) (.string ⟨#[]⟩) (.slice none 0 0)
  have b2 := (Below.refl _ w1).alloc (Nat.le_refl _) (.cells #[.int .i64 1, .int .i64 1, .string ⟨#[]⟩, .slice none 0 0] 24)
  have B2 := Below.step b1 b2
  generalize w1.alloc (.cells #[.int .i64 1, .int .i64 1, .string ⟨#[]⟩, .slice none 0 0] 24) = w2 at *
  generalize w1.heap.size = bo at *
  have O2 := Lib.hid o2
  have HB2 := Lib.hid B2
  clear b1 b2 o2 B2
  go_cut [2, 3] (fun s2 s3 wx => HoldsAt (listV [numV 1, numV 2]) w2 s2 wx ∧ s3 = .bool true)
  case first =>
    have HK := Lib.hid (Below.drew (Below.refl w2.heap.size w2))
    have hsk : w2.heap.size ≤ w2.drew.heap.size := HK.out.size
    go_region_held3 (fun w' => w'.cell? ⟨bo, 0, none⟩ = some (.int .i64 1) ∧ w'.cell? ⟨bo, 1, none⟩ = some (.int .i64 1) ∧ w'.cell? ⟨bo, 2, none⟩ = some (.string ⟨#[]⟩) ∧ w'.cell? ⟨bo, 3, none⟩ = some (.slice none 0 0))
      (first | exact boxCells O2.out HK.out | exact boxCells O2.out (belowAlloc HK.out _) | exact boxCells O2.out (belowAlloc (belowAlloc HK.out _) _) | exact boxCells O2.out (stored4 HK.out _ (by omega) _ _ _ _))
      (first
        | (go_at_call 18; refine (number_any _ _).mono ?_; rintro e w' ⟨rfl, hb⟩; (first | replace HBX := Lib.hid ((HBX.out.on (by first | exact Below.refl _ _ | exact stands_alloc _ _ | exact stands_two _ _ _)).on hb) | have HBX := Lib.hid ((boxed_new _ (.int .i64 0) (.int .i64 0) (.string ⟨#[]⟩) (.slice none 0 0)).on hb) | have HBX := Lib.hid (((boxed_new _ (.int .i64 0) (.int .i64 0) (.string ⟨#[]⟩) (.slice none 0 0)).on (stands_alloc _ _)).on hb) | have HBX := Lib.hid (((boxed_new _ (.int .i64 0) (.int .i64 0) (.string ⟨#[]⟩) (.slice none 0 0)).on (Below.drew (Below.refl _ _))).on hb) | skip); replace HK := Lib.hid (Below.step (Below.step HK.out (by first | exact Below.refl _ _ | exact stands_alloc _ _ | exact stands_two _ _ _)) hb); have hsk := HK.out.size; have hsz := hb.size; (try dsimp only [World.drew] at hsz); (try simp only [World.size_alloc] at hsz); clear hb)
        | (go_at_call 19; refine (list_any [numV 2] _ _ _ (Nat.le_refl _) (one_in (S := fun _ => False) (by first | exact alloc_new' _ _ | exact alloc_two _ _ _ | exact alloc_under _ _ _) (rep_num two64) (fun _ h => h.elim))).mono ?_; rintro e w'' ⟨r, rfl, hrl, hb⟩; obtain ⟨ra, rb, ro, rc, hr1, -⟩ := id hrl; subst hr1; (first | replace HBX := Lib.hid ((HBX.out.on (by first | exact Below.refl _ _ | exact stands_alloc _ _ | exact stands_two _ _ _)).on hb) | have HBX := Lib.hid ((boxed_new _ (.int .i64 0) (.int .i64 0) (.string ⟨#[]⟩) (.slice none 0 0)).on hb) | have HBX := Lib.hid (((boxed_new _ (.int .i64 0) (.int .i64 0) (.string ⟨#[]⟩) (.slice none 0 0)).on (stands_alloc _ _)).on hb) | have HBX := Lib.hid (((boxed_new _ (.int .i64 0) (.int .i64 0) (.string ⟨#[]⟩) (.slice none 0 0)).on (Below.drew (Below.refl _ _))).on hb) | skip); replace HK := Lib.hid (Below.step (Below.step HK.out (by first | exact Below.refl _ _ | exact stands_alloc _ _ | exact stands_two _ _ _)) hb); have hsk := HK.out.size; have hsz := hb.size; (try dsimp only [World.drew] at hsz); (try simp only [World.size_alloc] at hsz); have HR1 := Lib.hid (rep_list (hrl.on (S' := fun b => b < w''.heap.size) (fun k hk => hk.2) (fun _ _ => rfl))); clear hb hrl)
        | (go_at_call 5; refine (call_at 0 (by decide) [numV 1, listV [numV 2]] _ _ _ (Nat.le_refl _) (two_in (by first | exact alloc_new' _ _ | exact alloc_two _ _ _ | exact alloc_under _ _ _) (by first | exact Below.refl _ _ | exact stands_alloc _ _ | exact stands_two _ _ _) (rep_num one64) HR1.out (fun _ h => h))).mono ?_; rw [aw_cons]; rintro e w3 ⟨c0, c1, c2, c3, rfl, hr3, hb⟩; (first | replace HBX := Lib.hid ((HBX.out.on (by first | exact Below.refl _ _ | exact stands_alloc _ _ | exact stands_two _ _ _)).on hb) | have HBX := Lib.hid ((boxed_new _ (.int .i64 0) (.int .i64 0) (.string ⟨#[]⟩) (.slice none 0 0)).on hb) | have HBX := Lib.hid (((boxed_new _ (.int .i64 0) (.int .i64 0) (.string ⟨#[]⟩) (.slice none 0 0)).on (stands_alloc _ _)).on hb) | have HBX := Lib.hid (((boxed_new _ (.int .i64 0) (.int .i64 0) (.string ⟨#[]⟩) (.slice none 0 0)).on (Below.drew (Below.refl _ _))).on hb) | skip); replace HK := Lib.hid (Below.step (Below.step HK.out (by first | exact Below.refl _ _ | exact stands_alloc _ _ | exact stands_two _ _ _)) hb); have hsk := HK.out.size; have hsz := hb.size; (try dsimp only [World.drew] at hsz); (try simp only [World.size_alloc] at hsz); have HR3 := Lib.hid hr3; obtain ⟨ea, ec, rfl, rfl, rfl, rfl⟩ := hr3.form; clear hb hr3; (try (have X9 := HBX.out; (try dsimp only [World.drew] at X9); (try simp only [World.size_alloc] at X9); replace HBX := Lib.hid X9; obtain ⟨y0, y1, y2, y3⟩ := X9.cells; have z0 := frozen_of_row _ _ 0 _ _ X9; have z1 := frozen_of_row _ _ 1 _ _ X9; have z2 := frozen_of_row _ _ 2 _ _ X9; have z3 := frozen_of_row _ _ 3 _ _ X9; clear X9))))
    all_goals
      go_wp2_with fail
      go_meet
      first
        | (with_reducible exact ⟨holds_new HR3.out (fun b h => h.2) HK.out, rfl⟩)
        | (refine ⟨?_, rfl⟩; refine holds_set HR3.out HBX.out HK.out (fun b h => ⟨h.2, ?_⟩) ?_; (have h1 := h.1; (try simp only [World.size_alloc] at h1); omega); omega)
  case rest =>
    obtain ⟨⟨bl, la, lc, rfl, l4, hrl, b4⟩, rfl⟩ := hcut
    have L4 := Lib.hid l4; have HRL := Lib.hid hrl; have B4 := Lib.hid b4
    have O4 := Lib.hid (O2.out.on b4)
    clear l4 hrl b4
    go_wp2_with fail
    go_cut [4, 5] (fun s4 s5 wx => HoldsAt (numV 0) wc s4 wx ∧ s5 = .bool true)
    case first =>
      have HK := Lib.hid (Below.drew (Below.refl wc.heap.size wc))
      have hsk : wc.heap.size ≤ wc.drew.heap.size := HK.out.size
      go_region_held3 (fun w' => w'.cell? ⟨bl, 0, none⟩ = some (.int .i64 (listV [numV 1, numV 2]).kind) ∧ w'.cell? ⟨bl, 1, none⟩ = some (.int .i64 (listV [numV 1, numV 2]).num) ∧ w'.cell? ⟨bl, 2, none⟩ = some (.string (listV [numV 1, numV 2]).text) ∧ w'.cell? ⟨bl, 3, none⟩ = some (.slice la (listV [numV 1, numV 2]).list.length lc))
        (first | exact boxCells L4.out HK.out | exact boxCells L4.out (belowAlloc HK.out _) | exact boxCells L4.out (belowAlloc (belowAlloc HK.out _) _) | exact boxCells L4.out (stored4 HK.out _ (by omega) _ _ _ _))
        (first
          | (go_at_call 18; refine (number_any _ _).mono ?_; rintro e w' ⟨rfl, hb⟩; (first | replace HBX := Lib.hid ((HBX.out.on (by first | exact Below.refl _ _ | exact stands_alloc _ _ | exact stands_two _ _ _)).on hb) | have HBX := Lib.hid ((boxed_new _ (.int .i64 0) (.int .i64 0) (.string ⟨#[]⟩) (.slice none 0 0)).on hb) | have HBX := Lib.hid (((boxed_new _ (.int .i64 0) (.int .i64 0) (.string ⟨#[]⟩) (.slice none 0 0)).on (stands_alloc _ _)).on hb) | have HBX := Lib.hid (((boxed_new _ (.int .i64 0) (.int .i64 0) (.string ⟨#[]⟩) (.slice none 0 0)).on (Below.drew (Below.refl _ _))).on hb) | skip); replace HK := Lib.hid (Below.step (Below.step HK.out (by first | exact Below.refl _ _ | exact stands_alloc _ _ | exact stands_two _ _ _)) hb); have hsk := HK.out.size; have hsz := hb.size; (try dsimp only [World.drew] at hsz); (try simp only [World.size_alloc] at hsz); clear hb)
          | (go_at_call 5; refine (call_at 3 (by decide) [listV [numV 1, numV 2], numV 3] _ _ _ (Nat.le_refl _) (two_in (S := fun b => b < wc.heap.size) (by first | exact alloc_new' _ _ | exact alloc_two _ _ _ | exact alloc_under _ _ _) (by first | exact Below.refl _ _ | exact stands_alloc _ _ | exact stands_two _ _ _) (RepV.below (fun j hj => HK.out.block j hj) _ HRL.out) (rep_num three64) (fun k hk => Nat.lt_of_lt_of_le hk HK.out.size))).mono ?_; rw [aw_member]; rintro e w3 ⟨c0, c1, c2, c3, rfl, hr3, hb⟩; (first | replace HBX := Lib.hid ((HBX.out.on (by first | exact Below.refl _ _ | exact stands_alloc _ _ | exact stands_two _ _ _)).on hb) | have HBX := Lib.hid ((boxed_new _ (.int .i64 0) (.int .i64 0) (.string ⟨#[]⟩) (.slice none 0 0)).on hb) | have HBX := Lib.hid (((boxed_new _ (.int .i64 0) (.int .i64 0) (.string ⟨#[]⟩) (.slice none 0 0)).on (stands_alloc _ _)).on hb) | have HBX := Lib.hid (((boxed_new _ (.int .i64 0) (.int .i64 0) (.string ⟨#[]⟩) (.slice none 0 0)).on (Below.drew (Below.refl _ _))).on hb) | skip); replace HK := Lib.hid (Below.step (Below.step HK.out (by first | exact Below.refl _ _ | exact stands_alloc _ _ | exact stands_two _ _ _)) hb); have hsk := HK.out.size; have hsz := hb.size; (try dsimp only [World.drew] at hsz); (try simp only [World.size_alloc] at hsz); have HR3 := Lib.hid hr3; obtain ⟨ea, ec, rfl, rfl, rfl, rfl⟩ := hr3.form; clear hb hr3; (try (have X9 := HBX.out; (try dsimp only [World.drew] at X9); (try simp only [World.size_alloc] at X9); replace HBX := Lib.hid X9; obtain ⟨y0, y1, y2, y3⟩ := X9.cells; have z0 := frozen_of_row _ _ 0 _ _ X9; have z1 := frozen_of_row _ _ 1 _ _ X9; have z2 := frozen_of_row _ _ 2 _ _ X9; have z3 := frozen_of_row _ _ 3 _ _ X9; clear X9))))
      all_goals
        go_wp2_with fail
        go_meet
        first
          | (with_reducible exact ⟨holds_new HR3.out (fun b h => h.2) HK.out, rfl⟩)
          | (refine ⟨?_, rfl⟩; refine holds_set HR3.out HBX.out HK.out (fun b h => ⟨h.2, ?_⟩) ?_; (have h1 := h.1; (try simp only [World.size_alloc] at h1); omega); omega)
    case rest =>
      obtain ⟨⟨bm, ma, mc, rfl, m5, hrm, b5⟩, rfl⟩ := hcut
      have M5 := Lib.hid m5; have HRM := Lib.hid hrm; have B5 := Lib.hid (Below.step B4.out b5)
      have O5 := Lib.hid (O4.out.on b5)
      have L5 := Lib.hid (L4.out.on b5)
      have HRL5 := Lib.hid ((RepV.below (fun j hj => b5.block j hj) _ HRL.out).up b5.size _)
      clear m5 hrm b5 O4 L4 HRL B4
      generalize wc = w5 at *
      go_wp2_with fail
      go_cut [7] (fun s7 wx => s7 = .bool false ∧ Below w5.heap.size w5 wx)
      case first =>
        have HK := Lib.hid (Below.drew (Below.refl w5.heap.size w5))
        have hsk : w5.heap.size ≤ w5.drew.heap.size := HK.out.size
        go_region_held3 (fun w' => w'.cell? ⟨bo, 0, none⟩ = some (.int .i64 1) ∧ w'.cell? ⟨bo, 1, none⟩ = some (.int .i64 1) ∧ w'.cell? ⟨bo, 2, none⟩ = some (.string ⟨#[]⟩) ∧ w'.cell? ⟨bo, 3, none⟩ = some (.slice none 0 0))
          (first | exact boxCells O5.out HK.out | exact boxCells O5.out (belowAlloc HK.out _) | exact boxCells O5.out (belowAlloc (belowAlloc HK.out _) _) | exact boxCells O5.out (stored4 HK.out _ (by omega) _ _ _ _))
          (first
            | (go_at_call 18; refine (number_any _ _).mono ?_; rintro e w' ⟨rfl, hb⟩; (first | replace HBX := Lib.hid ((HBX.out.on (by first | exact Below.refl _ _ | exact stands_alloc _ _ | exact stands_two _ _ _)).on hb) | have HBX := Lib.hid ((boxed_new _ (.int .i64 0) (.int .i64 0) (.string ⟨#[]⟩) (.slice none 0 0)).on hb) | have HBX := Lib.hid (((boxed_new _ (.int .i64 0) (.int .i64 0) (.string ⟨#[]⟩) (.slice none 0 0)).on (stands_alloc _ _)).on hb) | have HBX := Lib.hid (((boxed_new _ (.int .i64 0) (.int .i64 0) (.string ⟨#[]⟩) (.slice none 0 0)).on (Below.drew (Below.refl _ _))).on hb) | skip); replace HK := Lib.hid (Below.step (Below.step HK.out (by first | exact Below.refl _ _ | exact stands_alloc _ _ | exact stands_two _ _ _)) hb); have hsk := HK.out.size; have hsz := hb.size; (try dsimp only [World.drew] at hsz); (try simp only [World.size_alloc] at hsz); clear hb)
            | (go_at_call 7; refine (op_any ⟨#[43]⟩ (numV 2147483647) (numV 1) 0 _ _ _ _ _ _ _ _ _ (Nat.zero_le _) (rep_num most64) (rep_num one64)).mono ?_; rw [aw_op]; rintro e w3 ⟨rfl, hb⟩; (first | replace HBX := Lib.hid ((HBX.out.on (by first | exact Below.refl _ _ | exact stands_alloc _ _ | exact stands_two _ _ _)).on hb) | have HBX := Lib.hid ((boxed_new _ (.int .i64 0) (.int .i64 0) (.string ⟨#[]⟩) (.slice none 0 0)).on hb) | have HBX := Lib.hid (((boxed_new _ (.int .i64 0) (.int .i64 0) (.string ⟨#[]⟩) (.slice none 0 0)).on (stands_alloc _ _)).on hb) | have HBX := Lib.hid (((boxed_new _ (.int .i64 0) (.int .i64 0) (.string ⟨#[]⟩) (.slice none 0 0)).on (Below.drew (Below.refl _ _))).on hb) | skip); replace HK := Lib.hid (Below.step (Below.step HK.out (by first | exact Below.refl _ _ | exact stands_alloc _ _ | exact stands_two _ _ _)) hb); have hsk := HK.out.size; have hsz := hb.size; (try dsimp only [World.drew] at hsz); (try simp only [World.size_alloc] at hsz); clear hb; (try (have X9 := HBX.out; (try dsimp only [World.drew] at X9); (try simp only [World.size_alloc] at X9); replace HBX := Lib.hid X9; obtain ⟨y0, y1, y2, y3⟩ := X9.cells; have z0 := frozen_of_row _ _ 0 _ _ X9; have z1 := frozen_of_row _ _ 1 _ _ X9; have z2 := frozen_of_row _ _ 2 _ _ X9; have z3 := frozen_of_row _ _ 3 _ _ X9; clear X9)); simp only [opCells, Option.isSome]))
        all_goals
          go_wp2_with fail
          go_meet
          first
            | (with_reducible exact ⟨rfl, belowAlloc HK.out _⟩)
            | exact ⟨rfl, stored4 HK.out _ (by omega) _ _ _ _⟩
      case rest =>
        obtain ⟨rfl, b6⟩ := hcut
        have M6 := Lib.hid (M5.out.on b6); have O6 := Lib.hid (O5.out.on b6); have L6 := Lib.hid (L5.out.on b6); have B6 := Lib.hid (Below.step HB2.out (Below.step B5.out b6))
        have HRL6 := Lib.hid ((RepV.below (fun j hj => b6.block j hj) _ HRL5.out).up b6.size _)
        have HRM6 := Lib.hid ((RepV.below (fun j hj => b6.block j hj) _ HRM.out).up b6.size _)
        have HT6 := Lib.hid (HT.out.below hg B6.out)
        have hg6 : 0 < wc.heap.size := Nat.lt_of_lt_of_le hg B6.out.size
        clear b6 M5 O5 L5 B5 HRL5 HRM
        generalize wc = w6 at *
        go_wp2_with fail
        have HK := Lib.hid (Below.drew (Below.refl w6.heap.size w6))
        have HAR : Hid (fnArity (fnOf ⟨#[102, 95, 99, 111, 110, 115]⟩) = 2) := by show _ = _; rw [show fnOf ⟨#[102, 95, 99, 111, 110, 115]⟩ = 0 from name_at 0 (by decide)]; rfl
        go_region_held3 (fun w' => (w'.cell? ⟨bl, 0, none⟩ = some (.int .i64 (listV [numV 1, numV 2]).kind) ∧ w'.cell? ⟨bl, 1, none⟩ = some (.int .i64 (listV [numV 1, numV 2]).num) ∧ w'.cell? ⟨bl, 2, none⟩ = some (.string (listV [numV 1, numV 2]).text) ∧ w'.cell? ⟨bl, 3, none⟩ = some (.slice la (listV [numV 1, numV 2]).list.length lc)) ∧ (w'.cell? ⟨bm, 0, none⟩ = some (.int .i64 (numV 0).kind) ∧ w'.cell? ⟨bm, 1, none⟩ = some (.int .i64 (numV 0).num) ∧ w'.cell? ⟨bm, 2, none⟩ = some (.string (numV 0).text) ∧ w'.cell? ⟨bm, 3, none⟩ = some (.slice ma (numV 0).list.length mc)) ∧ w'.cell? ⟨bo, 0, none⟩ = some (.int .i64 1) ∧ w'.cell? ⟨bo, 1, none⟩ = some (.int .i64 1) ∧ w'.cell? ⟨bo, 2, none⟩ = some (.string ⟨#[]⟩) ∧ w'.cell? ⟨bo, 3, none⟩ = some (.slice none 0 0))
          (first | exact ⟨boxCells L6.out HK.out, boxCells M6.out HK.out, boxCells O6.out HK.out⟩)
          (first
            | (go_at_call 18; refine (number_any _ _).mono ?_; rintro e w' ⟨rfl, hb⟩; replace HK := Lib.hid (Below.step HK.out hb); clear hb)
            | (go_at_call 9; refine (arity_any _ _).mono ?_; rintro e w' ⟨rfl, hb⟩; rw [HAR.out]; replace HK := Lib.hid (Below.step HK.out hb); clear hb)
            | (go_at_call 12; refine (test_any ⟨#[60]⟩ (numV 1) (numV 2) 0 _ _ _ _ _ _ _ _ _ (Nat.zero_le _) (rep_num one64) (rep_num two64)).mono ?_; rintro e w' ⟨rfl, hb⟩; rw [aw_test]; replace HK := Lib.hid (Below.step HK.out hb); clear hb)
            | (go_at_call 20; ((with_reducible refine (print_any (listV [numV 1, numV 2]) w6.heap.size _ _ _ _ _ HK.out.size (Nat.lt_of_lt_of_le hg6 HK.out.size) (HT6.out.below hg6 HK.out) (HRL6.out.on HK.out (Nat.le_refl _))).mono ?_); rintro e w' ⟨rfl, hb⟩; rw [aw_print]; replace HK := Lib.hid (Below.step HK.out hb); clear hb))
            | (go_at_call 20; ((with_reducible refine (print_any (numV 0) w6.heap.size _ _ _ _ _ HK.out.size (Nat.lt_of_lt_of_le hg6 HK.out.size) (HT6.out.below hg6 HK.out) (HRM6.out.on HK.out (Nat.le_refl _))).mono ?_); rintro e w' ⟨rfl, hb⟩; rw [aw_zero]; replace HK := Lib.hid (Below.step HK.out hb); clear hb)))
        go_wp2_with fail
        go_ret
        exact ⟨rfl, Below.step B6.out HK.out⟩

end Go.Proofs.YtaomlkglodeaoaaDoor
