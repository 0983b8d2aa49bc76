/-
  slices.Clone of a slice of values; builtin's reverse.
-/
import Derived.Test.YtaomlkglodeaoaaDoorW04
import Derived.Test.YtaomlkglodeaoaaDoorW01
import Derived.Lib.SliceRun
import Derived.Laws.EntriesVeiled
import Derived.WalkSpells
import Derived.WalkLawsBesides
namespace Go.Proofs.YtaomlkglodeaoaaDoor
open Go.RowKit

/-- The same elements in a row of the call's own. -/
def ClonePost (l : List V) (B : Nat) (w : World) (e : Ending) (w' : World) : Prop := ∃ a n c, e = .returned (.slice a n c) ∧ OwnL (fun b => b < B) w' w.heap.size l (.slice a n c) ∧ Below w.heap.size w w'

theorem own_empty (S : Nat → Prop) (w : World) : OwnL S (w.alloc (.cells #[] 24)) w.heap.size [] (.slice (some ⟨w.heap.size, 0, none⟩) 0 0) :=
  ⟨[], ⟨rfl, .inr ⟨w.heap.size, 0, #[], rfl, Nat.le_refl _, alloc_new' _ _, Nat.le_refl _, Nat.zero_le _, rfl, rfl⟩⟩, fun i hi => by simp at hi⟩

set_option maxRecDepth 100000 in
set_option maxHeartbeats 1000000 in
theorem clone_any (l : List V) (B : Nat) (w : World) (a : Value) (hB : B ≤ w.heap.size) (ha : RepL B w l a) (hl : l.length ≤ 1000) :
    Calls Tryd.prog 61 #[a] w (ClonePost l B w) := by
  obtain ⟨aa, ab, ao, ac, rfl, h6, h7, h8, h9, h10⟩ := id ha
  have q22 : ∀ (w : World) (a : Option Addr) (n c n' c' : Nat), (binOp .eql 22 (.slice a n c) (.slice none n' c')).run Tryd.prog w = .ok (.bool a.isNone) w := fun w a n c n' c' => Lib.run_eql_slice_nil w _ _ a n c n' c' Tryd.underlying22
  rcases aa with _ | ad
  · have hc : ac = 0 := by
      by_cases hc : 0 < ac
      · have := h8 hc; cases this
      · omega
    subst hc
    obtain rfl : l = [] := List.length_eq_zero_iff.1 (by omega)
    clear ha h6 h7 h8 h9 h10
    simp only [List.length_nil]
    go_enter Tryd.func61, Tryd.ntmps61
    go_wp2_with fail
    go_ret
    exact ⟨none, 0, 0, rfl, OwnL.nil _ _ _, Below.refl _ _⟩
  · have hb1 : Below w.heap.size w (w.alloc (.cells #[] 24)) := (Below.refl _ w).alloc (Nat.le_refl _) _
    obtain ⟨v', w2, hrun, hown, hgr, hv⟩ := append_run (w.alloc (.cells #[] 24)) w.heap.size 22 (own_empty (fun b => b < B) w) (RepL.below (fun j hj => hb1.block j (by omega)) ha) (fun k hk => ⟨by simp; omega, by simp [Value.ownBlock]; omega⟩) (by simp; omega) (by simp)
    rw [List.nil_append] at hown
    obtain ⟨ra, rc, rfl⟩ := own_slice hown
    have HR := Lib.hid hrun
    have HO := Lib.hid hown
    have HB := Lib.hid (show Below w.heap.size w w2 from ⟨hgr.os.trans hb1.os, hgr.tape.trans hb1.tape, hgr.output.trans hb1.output, Nat.le_trans hb1.size hgr.size, fun k hk => (hgr.block k (by simp; omega) (by simp [Value.ownBlock]; omega)).trans (hb1.block k hk)⟩)
    clear ha h6 h7 h8 h9 h10 hrun hown hgr hv hb1
    generalize l.length = len at *
    go_enter Tryd.func61, Tryd.ntmps61
    go_wp2_with (at_builtin; refine Lib.wpList_append_run _ rfl _ _ _ _ rfl _ _ rfl rfl _ _ HR.out ?_)
    go_ret
    exact ⟨_, _, _, rfl, HO.out, HB.out⟩

/-- A row of the call's own in block g, turned about. -/
theorem own_turned {B : Nat} {w : World} {base : Nat} {l : List V} {a : Option Addr} {n c : Nat} (h : OwnL (fun b => b < B) w base l (.slice a n c)) (_hB : B ≤ base) : n = l.length ∧ ((l = [] ∧ a = none ∧ c = 0) ∨ ∃ g, a = some ⟨g, 0, none⟩ ∧ l.length ≤ c ∧ base ≤ g ∧ g < w.heap.size ∧ RevInv (fun b => b < B) l g c 0 w w) := by
  obtain ⟨xs, ⟨hlen, hown⟩, hr⟩ := h
  rcases hown with ⟨e, hn⟩ | ⟨g, cap, cur, e, hbg, hh, hnc, hcm, hcs, htk⟩
  · cases e
    have hl : l = [] := List.length_eq_zero_iff.1 hn
    subst hl
    exact ⟨rfl, .inl ⟨rfl, rfl, rfl⟩⟩
  · cases e
    refine ⟨rfl, .inr ⟨g, rfl, hnc, hbg, (Array.getElem?_eq_some_iff.1 hh).1, cur, hh, hcs, ?_, World.grownBy.refl w _⟩⟩
    rw [revTo_zero]
    intro i hi
    obtain ⟨z0, z1, z2, z3, g0, g1, g2, g3, gg⟩ := hr i hi
    have key : ∀ j v, j < l.length * 4 → xs.toArray[j]? = some v → cur[j]? = some v := by
      intro j v hj hv
      rw [List.getElem?_toArray, ← htk, List.getElem?_take, if_pos hj] at hv
      rw [← Array.getElem?_toList]; exact hv
    exact ⟨z0, z1, z2, z3, key _ _ (by omega) g0, key _ _ (by omega) g1, key _ _ (by omega) g2, key _ _ (by omega) g3, gg⟩

/-- Reverse of such a row. -/
def TurnPost (l : List V) (B base : Nat) (v : Value) (w : World) (e : Ending) (w' : World) : Prop := e = .returned (.tuple #[]) ∧ RepLG (fun b => b < B ∨ (base ≤ b ∧ b < w'.heap.size)) w' l.reverse v ∧ Below base w w'
theorem turn_any (l : List V) (B base : Nat) (w : World) (a : Option Addr) (n c : Nat) (hB : B ≤ base) (_hbase : base ≤ w.heap.size) (h : OwnL (fun b => b < B) w base l (.slice a n c)) (hl : l.length ≤ 1000) :
    Calls Tryd.prog 62 #[.slice a n c] w (TurnPost l B base (.slice a n c) w) := by
  obtain ⟨rfl, ⟨rfl, rfl, rfl⟩ | ⟨g, rfl, hc, hbg, hg, hinv⟩⟩ := own_turned h hB
  · clear h
    simp only [List.length_nil]
    go_enter Tryd.func62, Tryd.ntmps62
    go_wp2_with fail
    refine wp_loop_rounds 1 ?_
    rw [rounds_succ]
    go_wp2_with fail
    go_end0
    exact ⟨rfl, rep_nil, Below.refl _ _⟩
  · refine (reverse_row (fun b => b < B) l g c w (fun k hk => ⟨by omega, by omega⟩) hc hl hinv).mono ?_
    rintro e w' ⟨rfl, k, hk, cur, hh, hsz, hrow, hgr⟩
    rw [revTo_end l k hk] at hrow
    refine ⟨rfl, ?_, hgr.os, hgr.tape, hgr.output, hgr.size, fun j hj => hgr.block j (by omega) (fun e => by have := Option.some.inj e; omega)⟩
    have := (hrow.on (S' := fun b => b < B ∨ (base ≤ b ∧ b < w'.heap.size)) (fun _ h => .inl h) (fun _ _ => rfl)).slice hh (.inr ⟨hbg, (Array.getElem?_eq_some_iff.1 hh).1⟩) (cap := c) (by rw [List.length_reverse]; exact hc) (by rw [List.length_reverse]; omega)
    rw [List.length_reverse] at this
    exact this

set_option maxRecDepth 100000 in
set_option maxHeartbeats 1000000 in
theorem turned_any (x : V) (B : Nat) (w : World) (a : Value) (hB : B ≤ w.heap.size) (ha : RepL B w [x] a) (hx : x.list.length ≤ 100) :
    Calls Tryd.prog 46 #[a] w (DoPost (listV x.list.reverse) w) := by
  have hb1 : Below w.heap.size w (w.alloc (.cells #[.int .i64 0, .int .i64 0, .string ⟨#[]⟩, .slice none 0 0] 24)) := (Below.refl _ w).alloc (Nat.le_refl _) _
  have HX := Lib.hid (boxed_new w (.int .i64 0) (.int .i64 0) (.string ⟨#[]⟩) (.slice none 0 0))
  have HB1 := Lib.hid hb1
  have HS1 := Lib.hid (World.size_alloc w (.cells #[.int .i64 0, .int .i64 0, .string ⟨#[]⟩, .slice none 0 0] 24))
  obtain ⟨aa, ab, ao, ac, rfl, hac, -⟩ := id ha
  obtain ⟨-, -, b, o, fa, fc, rfl, hSb, g0, g1, g2, g3, g⟩ := RepLG.at (RepL.below (w' := (w.alloc (.cells #[.int .i64 0, .int .i64 0, .string ⟨#[]⟩, .slice none 0 0] 24))) (fun j hj => hb1.block j (by omega)) ha) 0 (by simp)
  simp only [List.getElem_cons_zero, Nat.zero_mul, Nat.add_zero] at g0 g1 g2 g3 g
  have GX := Lib.hid g.lst
  clear ha g hb1
  go_enter Tryd.func46, Tryd.ntmps46
  go_wp2_with fail
  refine (clone_any x.list B _ _ (by simp; omega) GX.out (by omega)).mono ?_
  rintro e w2 ⟨ca, cn, cc, rfl, hown, hb2⟩
  have HB2 := Lib.hid hb2
  have HO := Lib.hid hown
  clear hown hb2 g0 g1 g2 g3
  go_wp2_with fail
  refine (turn_any x.list B _ _ _ _ _ (by simp; omega) HB2.out.size HO.out (by omega)).mono ?_
  rintro e w3 ⟨rfl, hr3, hb3⟩
  have HB3 := Lib.hid (HB2.out.trans hb3)
  have HR3 := Lib.hid hr3
  clear hr3 hb3
  go_wp2_with fail
  refine (sharing_any _ _ _ _).mono ?_
  rintro e w4 ⟨rfl, hb4⟩
  have HB4 := Lib.hid (Below.step HB3.out hb4)
  have HR4 := Lib.hid (HR3.out.on (w' := w4) (fun _ h => h) (fun k hk => hb4.block k (by have := HB3.out.size; simp at this hk; omega)))
  have X4 := HX.out.on HB4.out
  obtain ⟨r0, r1, r2, r3⟩ := X4.cells
  have z0 := frozen_of_row w4 _ 0 _ _ X4
  have z1 := frozen_of_row w4 _ 1 _ _ X4
  have z2 := frozen_of_row w4 _ 2 _ _ X4
  have z3 := frozen_of_row w4 _ 3 _ _ X4
  have hs4 := hb4.size
  have hs3 := HB3.out.size
  clear X4 hb4
  go_wp2_with fail
  refine bodyPost_ret (by simp [results, Tryd.results46, go_sem, r0, r1, r2, r3]; rfl) rfl ?_
  exact ⟨_, _, _, _, rfl, RepG.past4 (rep_list HR4.out) w.heap.size (by simp; omega) (fun b h => by simp at h hs3; omega) _ _ _ _, stored4 (Below.trans HB1.out (HB4.out.mono (by simp))) w.heap.size (Nat.le_refl _) _ _ _ _⟩

end Go.Proofs.YtaomlkglodeaoaaDoor

/-
  builtin's table of functions: what find and Arity tell of any name.
-/
namespace Go.Proofs.YtaomlkglodeaoaaDoor
open Go.RowKit

/-- The functions' names, by their numbers here. -/
def fname : Nat → List UInt8
  | 0 => [102, 95, 99, 111, 110, 115]
  | 1 => [102, 95, 97, 112, 112, 101, 110, 100]
  | 2 => [102, 95, 99, 111, 110, 99, 97, 116]
  | 3 => [102, 95, 109, 101, 109, 98, 101, 114]
  | 4 => [102, 95, 115, 105, 122, 101]
  | 5 => [102, 95, 102, 105, 114, 115, 116]
  | 6 => [102, 95, 108, 97, 115, 116]
  | 7 => [102, 95, 114, 101, 115, 116]
  | 8 => [102, 95, 114, 101, 118, 101, 114, 115, 101]
  | _ => []
/-- Which function a name is of; 9: of none. -/
def fnOf (s : ByteArray) : Nat :=
  if (s.toList == [102, 95, 99, 111, 110, 115]) = true then 0
  else if (s.toList == [102, 95, 97, 112, 112, 101, 110, 100]) = true then 1
  else if (s.toList == [102, 95, 99, 111, 110, 99, 97, 116]) = true then 2
  else if (s.toList == [102, 95, 109, 101, 109, 98, 101, 114]) = true then 3
  else if (s.toList == [102, 95, 115, 105, 122, 101]) = true then 4
  else if (s.toList == [102, 95, 102, 105, 114, 115, 116]) = true then 5
  else if (s.toList == [102, 95, 108, 97, 115, 116]) = true then 6
  else if (s.toList == [102, 95, 114, 101, 115, 116]) = true then 7
  else if (s.toList == [102, 95, 114, 101, 118, 101, 114, 115, 101]) = true then 8
  else 9
def fnArity : Nat → Int
  | 0 => 2
  | 1 => 2
  | 2 => 2
  | 3 => 2
  | 4 => 1
  | 5 => 1
  | 6 => 1
  | 7 => 1
  | 8 => 1
  | _ => -1
def fnList : Nat → Nat → Bool
  | 0, 0 => false | 0, 1 => true
  | 1, 0 => true | 1, 1 => false
  | 2, 0 => true | 2, 1 => true
  | 3, 0 => true | 3, 1 => false
  | 4, 0 => true | 4, 1 => false
  | 5, 0 => true | 5, 1 => false
  | 6, 0 => true | 6, 1 => false
  | 7, 0 => true | 7, 1 => false
  | 8, 0 => true | 8, 1 => false
  | _, _ => false
def fnDo : Nat → Value
  | 0 => .func (.func 38) #[] #[]
  | 1 => .func (.func 39) #[] #[]
  | 2 => .func (.func 40) #[] #[]
  | 3 => .func (.func 41) #[] #[]
  | 4 => .func (.func 42) #[] #[]
  | 5 => .func (.func 43) #[] #[]
  | 6 => .func (.func 44) #[] #[]
  | 7 => .func (.func 45) #[] #[]
  | 8 => .func (.func 46) #[] #[]
  | _ => .nilFunc
def FindPost (k : Nat) (w : World) (e : Ending) (w' : World) : Prop := e = .returned (.agg #[.int .i64 (fnArity k), .bool (fnList k 0), .bool (fnList k 1), fnDo k]) ∧ Below w.heap.size w w'
set_option maxRecDepth 100000 in
set_option maxHeartbeats 1000000 in
theorem find_0 (s : ByteArray) (w : World) (h0 : (s.toList == [102, 95, 99, 111, 110, 115]) = true) : Calls Tryd.prog 21 #[.string s] w (FindPost 0 w) := by
  go_enter Tryd.func21, Tryd.ntmps21
  go_wp2_with fail
  exact bodyPost_ret (v := .agg #[.int .i64 2, .bool false, .bool true, .func (.func 38) #[] #[]]) (by simp [results, Tryd.results21, go_sem]) rfl ⟨rfl, (Below.refl _ _).alloc (Nat.le_refl _) _⟩
set_option maxRecDepth 100000 in
set_option maxHeartbeats 1000000 in
theorem find_1 (s : ByteArray) (w : World) (h0 : (s.toList == [102, 95, 99, 111, 110, 115]) = false) (h1 : (s.toList == [102, 95, 97, 112, 112, 101, 110, 100]) = true) : Calls Tryd.prog 21 #[.string s] w (FindPost 1 w) := by
  go_enter Tryd.func21, Tryd.ntmps21
  go_wp2_with fail
  exact bodyPost_ret (v := .agg #[.int .i64 2, .bool true, .bool false, .func (.func 39) #[] #[]]) (by simp [results, Tryd.results21, go_sem]) rfl ⟨rfl, (Below.refl _ _).alloc (Nat.le_refl _) _⟩
set_option maxRecDepth 100000 in
set_option maxHeartbeats 1000000 in
theorem find_2 (s : ByteArray) (w : World) (h0 : (s.toList == [102, 95, 99, 111, 110, 115]) = false) (h1 : (s.toList == [102, 95, 97, 112, 112, 101, 110, 100]) = false) (h2 : (s.toList == [102, 95, 99, 111, 110, 99, 97, 116]) = true) : Calls Tryd.prog 21 #[.string s] w (FindPost 2 w) := by
  go_enter Tryd.func21, Tryd.ntmps21
  go_wp2_with fail
  exact bodyPost_ret (v := .agg #[.int .i64 2, .bool true, .bool true, .func (.func 40) #[] #[]]) (by simp [results, Tryd.results21, go_sem]) rfl ⟨rfl, (Below.refl _ _).alloc (Nat.le_refl _) _⟩
set_option maxRecDepth 100000 in
set_option maxHeartbeats 1000000 in
theorem find_3 (s : ByteArray) (w : World) (h0 : (s.toList == [102, 95, 99, 111, 110, 115]) = false) (h1 : (s.toList == [102, 95, 97, 112, 112, 101, 110, 100]) = false) (h2 : (s.toList == [102, 95, 99, 111, 110, 99, 97, 116]) = false) (h3 : (s.toList == [102, 95, 109, 101, 109, 98, 101, 114]) = true) : Calls Tryd.prog 21 #[.string s] w (FindPost 3 w) := by
  go_enter Tryd.func21, Tryd.ntmps21
  go_wp2_with fail
  exact bodyPost_ret (v := .agg #[.int .i64 2, .bool true, .bool false, .func (.func 41) #[] #[]]) (by simp [results, Tryd.results21, go_sem]) rfl ⟨rfl, (Below.refl _ _).alloc (Nat.le_refl _) _⟩
set_option maxRecDepth 100000 in
set_option maxHeartbeats 1000000 in
theorem find_4 (s : ByteArray) (w : World) (h0 : (s.toList == [102, 95, 99, 111, 110, 115]) = false) (h1 : (s.toList == [102, 95, 97, 112, 112, 101, 110, 100]) = false) (h2 : (s.toList == [102, 95, 99, 111, 110, 99, 97, 116]) = false) (h3 : (s.toList == [102, 95, 109, 101, 109, 98, 101, 114]) = false) (h4 : (s.toList == [102, 95, 115, 105, 122, 101]) = true) : Calls Tryd.prog 21 #[.string s] w (FindPost 4 w) := by
  go_enter Tryd.func21, Tryd.ntmps21
  go_wp2_with fail
  exact bodyPost_ret (v := .agg #[.int .i64 1, .bool true, .bool false, .func (.func 42) #[] #[]]) (by simp [results, Tryd.results21, go_sem]) rfl ⟨rfl, (Below.refl _ _).alloc (Nat.le_refl _) _⟩
set_option maxRecDepth 100000 in
set_option maxHeartbeats 1000000 in
theorem find_5 (s : ByteArray) (w : World) (h0 : (s.toList == [102, 95, 99, 111, 110, 115]) = false) (h1 : (s.toList == [102, 95, 97, 112, 112, 101, 110, 100]) = false) (h2 : (s.toList == [102, 95, 99, 111, 110, 99, 97, 116]) = false) (h3 : (s.toList == [102, 95, 109, 101, 109, 98, 101, 114]) = false) (h4 : (s.toList == [102, 95, 115, 105, 122, 101]) = false) (h5 : (s.toList == [102, 95, 102, 105, 114, 115, 116]) = true) : Calls Tryd.prog 21 #[.string s] w (FindPost 5 w) := by
  go_enter Tryd.func21, Tryd.ntmps21
  go_wp2_with fail
  exact bodyPost_ret (v := .agg #[.int .i64 1, .bool true, .bool false, .func (.func 43) #[] #[]]) (by simp [results, Tryd.results21, go_sem]) rfl ⟨rfl, (Below.refl _ _).alloc (Nat.le_refl _) _⟩
set_option maxRecDepth 100000 in
set_option maxHeartbeats 1000000 in
theorem find_6 (s : ByteArray) (w : World) (h0 : (s.toList == [102, 95, 99, 111, 110, 115]) = false) (h1 : (s.toList == [102, 95, 97, 112, 112, 101, 110, 100]) = false) (h2 : (s.toList == [102, 95, 99, 111, 110, 99, 97, 116]) = false) (h3 : (s.toList == [102, 95, 109, 101, 109, 98, 101, 114]) = false) (h4 : (s.toList == [102, 95, 115, 105, 122, 101]) = false) (h5 : (s.toList == [102, 95, 102, 105, 114, 115, 116]) = false) (h6 : (s.toList == [102, 95, 108, 97, 115, 116]) = true) : Calls Tryd.prog 21 #[.string s] w (FindPost 6 w) := by
  go_enter Tryd.func21, Tryd.ntmps21
  go_wp2_with fail
  exact bodyPost_ret (v := .agg #[.int .i64 1, .bool true, .bool false, .func (.func 44) #[] #[]]) (by simp [results, Tryd.results21, go_sem]) rfl ⟨rfl, (Below.refl _ _).alloc (Nat.le_refl _) _⟩
set_option maxRecDepth 100000 in
set_option maxHeartbeats 1000000 in
theorem find_7 (s : ByteArray) (w : World) (h0 : (s.toList == [102, 95, 99, 111, 110, 115]) = false) (h1 : (s.toList == [102, 95, 97, 112, 112, 101, 110, 100]) = false) (h2 : (s.toList == [102, 95, 99, 111, 110, 99, 97, 116]) = false) (h3 : (s.toList == [102, 95, 109, 101, 109, 98, 101, 114]) = false) (h4 : (s.toList == [102, 95, 115, 105, 122, 101]) = false) (h5 : (s.toList == [102, 95, 102, 105, 114, 115, 116]) = false) (h6 : (s.toList == [102, 95, 108, 97, 115, 116]) = false) (h7 : (s.toList == [102, 95, 114, 101, 115, 116]) = true) : Calls Tryd.prog 21 #[.string s] w (FindPost 7 w) := by
  go_enter Tryd.func21, Tryd.ntmps21
  go_wp2_with fail
  exact bodyPost_ret (v := .agg #[.int .i64 1, .bool true, .bool false, .func (.func 45) #[] #[]]) (by simp [results, Tryd.results21, go_sem]) rfl ⟨rfl, (Below.refl _ _).alloc (Nat.le_refl _) _⟩
set_option maxRecDepth 100000 in
set_option maxHeartbeats 1000000 in
theorem find_8 (s : ByteArray) (w : World) (h0 : (s.toList == [102, 95, 99, 111, 110, 115]) = false) (h1 : (s.toList == [102, 95, 97, 112, 112, 101, 110, 100]) = false) (h2 : (s.toList == [102, 95, 99, 111, 110, 99, 97, 116]) = false) (h3 : (s.toList == [102, 95, 109, 101, 109, 98, 101, 114]) = false) (h4 : (s.toList == [102, 95, 115, 105, 122, 101]) = false) (h5 : (s.toList == [102, 95, 102, 105, 114, 115, 116]) = false) (h6 : (s.toList == [102, 95, 108, 97, 115, 116]) = false) (h7 : (s.toList == [102, 95, 114, 101, 115, 116]) = false) (h8 : (s.toList == [102, 95, 114, 101, 118, 101, 114, 115, 101]) = true) : Calls Tryd.prog 21 #[.string s] w (FindPost 8 w) := by
  go_enter Tryd.func21, Tryd.ntmps21
  go_wp2_with fail
  exact bodyPost_ret (v := .agg #[.int .i64 1, .bool true, .bool false, .func (.func 46) #[] #[]]) (by simp [results, Tryd.results21, go_sem]) rfl ⟨rfl, (Below.refl _ _).alloc (Nat.le_refl _) _⟩
set_option maxRecDepth 100000 in
set_option maxHeartbeats 1000000 in
theorem find_9 (s : ByteArray) (w : World) (h0 : (s.toList == [102, 95, 99, 111, 110, 115]) = false) (h1 : (s.toList == [102, 95, 97, 112, 112, 101, 110, 100]) = false) (h2 : (s.toList == [102, 95, 99, 111, 110, 99, 97, 116]) = false) (h3 : (s.toList == [102, 95, 109, 101, 109, 98, 101, 114]) = false) (h4 : (s.toList == [102, 95, 115, 105, 122, 101]) = false) (h5 : (s.toList == [102, 95, 102, 105, 114, 115, 116]) = false) (h6 : (s.toList == [102, 95, 108, 97, 115, 116]) = false) (h7 : (s.toList == [102, 95, 114, 101, 115, 116]) = false) (h8 : (s.toList == [102, 95, 114, 101, 118, 101, 114, 115, 101]) = false) : Calls Tryd.prog 21 #[.string s] w (FindPost 9 w) := by
  go_enter Tryd.func21, Tryd.ntmps21
  go_wp2_with fail
  exact bodyPost_ret (v := .agg #[.int .i64 (-1), .bool false, .bool false, .nilFunc]) (by simp [results, Tryd.results21, go_sem]) rfl ⟨rfl, (Below.refl _ _).alloc (Nat.le_refl _) _⟩
theorem find_any (s : ByteArray) (w : World) : Calls Tryd.prog 21 #[.string s] w (FindPost (fnOf s) w) := by
  unfold fnOf
  cases h0 : (s.toList == [102, 95, 99, 111, 110, 115]) with
  | true => rw [if_pos rfl]; exact find_0 s w h0
  | false =>
  rw [if_neg (by decide)]
  cases h1 : (s.toList == [102, 95, 97, 112, 112, 101, 110, 100]) with
  | true => rw [if_pos rfl]; exact find_1 s w h0 h1
  | false =>
  rw [if_neg (by decide)]
  cases h2 : (s.toList == [102, 95, 99, 111, 110, 99, 97, 116]) with
  | true => rw [if_pos rfl]; exact find_2 s w h0 h1 h2
  | false =>
  rw [if_neg (by decide)]
  cases h3 : (s.toList == [102, 95, 109, 101, 109, 98, 101, 114]) with
  | true => rw [if_pos rfl]; exact find_3 s w h0 h1 h2 h3
  | false =>
  rw [if_neg (by decide)]
  cases h4 : (s.toList == [102, 95, 115, 105, 122, 101]) with
  | true => rw [if_pos rfl]; exact find_4 s w h0 h1 h2 h3 h4
  | false =>
  rw [if_neg (by decide)]
  cases h5 : (s.toList == [102, 95, 102, 105, 114, 115, 116]) with
  | true => rw [if_pos rfl]; exact find_5 s w h0 h1 h2 h3 h4 h5
  | false =>
  rw [if_neg (by decide)]
  cases h6 : (s.toList == [102, 95, 108, 97, 115, 116]) with
  | true => rw [if_pos rfl]; exact find_6 s w h0 h1 h2 h3 h4 h5 h6
  | false =>
  rw [if_neg (by decide)]
  cases h7 : (s.toList == [102, 95, 114, 101, 115, 116]) with
  | true => rw [if_pos rfl]; exact find_7 s w h0 h1 h2 h3 h4 h5 h6 h7
  | false =>
  rw [if_neg (by decide)]
  cases h8 : (s.toList == [102, 95, 114, 101, 118, 101, 114, 115, 101]) with
  | true => rw [if_pos rfl]; exact find_8 s w h0 h1 h2 h3 h4 h5 h6 h7 h8
  | false =>
  rw [if_neg (by decide)]
  exact find_9 s w h0 h1 h2 h3 h4 h5 h6 h7 h8
theorem fnArity_range (k : Nat) : fnArity k = 2 ∨ fnArity k = 1 ∨ fnArity k = -1 := by
  unfold fnArity; split <;> simp
theorem field_arity (a b c d : Value) (w : World) : Sem.run Tryd.prog (Instr.field 44 (.agg #[a, b, c, d]) 0) w = .ok a w := by
  kernel_rfl
set_option maxRecDepth 100000 in
set_option maxHeartbeats 1000000 in
theorem arity_any (s : ByteArray) (w : World) : Calls Tryd.prog 9 #[.string s] w fun e w' => e = .returned (.int .i64 (fnArity (fnOf s))) ∧ Below w.heap.size w w' := by
  go_enter Tryd.func9, Tryd.ntmps9
  go_wp2_with fail
  refine (find_any s w).mono ?_
  rintro e w1 ⟨rfl, hb⟩
  have hf := field_arity
  go_wp2_with fail
  go_ret
  exact ⟨rfl, hb⟩

end Go.Proofs.YtaomlkglodeaoaaDoor

/-
  value.Name and value.rightText: a range over a string's runes comes to what its bytes say.
-/
namespace Go.Proofs.YtaomlkglodeaoaaDoor
open Go.RowKit

def smallB (r : Int) : Bool := decide (97 ≤ r ∧ r ≤ 122)
def digitB (r : Int) : Bool := decide (48 ≤ r ∧ r ≤ 57)
def okAt (i : Nat) (r : Int) : Bool := smallB r || (!(decide (i = 0)) && (digitB r || (r == 95)))
def nameB (s : ByteArray) : Bool := decide (1 ≤ s.size ∧ s.size ≤ 16 ∧ ∀ i (h : i < s.size), okAt i (s[i].toNat : Int) = true)
def okText (r : Int) : Bool := decide (32 ≤ r ∧ r ≤ 126 ∧ r ≠ 34 ∧ r ≠ 92)
def textB (s : ByteArray) : Bool := decide (s.size ≤ 32 ∧ ∀ i (h : i < s.size), okText (s[i].toNat : Int) = true)

theorem okAt_high (i : Nat) (r : Int) (h : 128 ≤ r) : okAt i r = false := by
  simp only [okAt, smallB, digitB, Bool.or_eq_false_iff, Bool.and_eq_false_iff, decide_eq_false_iff_not, beq_eq_false_iff_ne, Bool.not_eq_false', decide_eq_true_eq]
  omega
theorem okText_high (r : Int) (h : 128 ≤ r) : okText r = false := by
  simp only [okText, decide_eq_false_iff_not]
  omega

/-- The rune at a place: the byte there, or one that no test lets pass, as the byte itself. -/
theorem rune_at (s : ByteArray) (pos : Nat) (h : pos < s.size) :
    (∃ c : Nat, c < 128 ∧ Utf8.decode s pos = (c, 1) ∧ s[pos].toNat = c) ∨ (128 ≤ (Utf8.decode s pos).1 ∧ (Utf8.decode s pos).1 ≤ 2147483647 ∧ 128 ≤ s[pos].toNat) := by
  by_cases ha : (s[pos]'h).toNat < 128
  · exact Or.inl ⟨_, ha, decode_ascii s pos h ha, rfl⟩
  · exact Or.inr ⟨(decode_high s pos h (by omega)).1, decode_le s pos, by omega⟩

theorem nameB_true {s : ByteArray} (h1 : 1 ≤ s.size) (h2 : s.size ≤ 16) (h : ∀ i (h : i < s.size), okAt i (s[i].toNat : Int) = true) : nameB s = true := decide_eq_true ⟨h1, h2, h⟩
theorem nameB_false {s : ByteArray} {i : Nat} (h : i < s.size) (e : okAt i (s[i].toNat : Int) = false) : nameB s = false := decide_eq_false fun ⟨_, _, g⟩ => by rw [g i h] at e; cases e
theorem nameB_size {s : ByteArray} (h : s.size < 1 ∨ 16 < s.size) : nameB s = false := decide_eq_false fun ⟨_, _, _⟩ => by omega
theorem textB_true {s : ByteArray} (h2 : s.size ≤ 32) (h : ∀ i (h : i < s.size), okText (s[i].toNat : Int) = true) : textB s = true := decide_eq_true ⟨h2, h⟩
theorem textB_false {s : ByteArray} {i : Nat} (h : i < s.size) (e : okText (s[i].toNat : Int) = false) : textB s = false := decide_eq_false fun ⟨_, g⟩ => by rw [g i h] at e; cases e
theorem textB_size {s : ByteArray} (h : 32 < s.size) : textB s = false := decide_eq_false fun ⟨_, _⟩ => by omega

theorem ret_bool {a b : Bool} (h : a = b) : Ending.returned (.bool a) = .returned (.bool b) := by rw [h]

theorem small_any (r : Int) (w : World) : Calls Tryd.prog 72 #[.int .i32 r] w fun e w' => e = .returned (.bool (smallB r)) ∧ w = w' := by
  by_cases h1 : 97 ≤ r
  · by_cases h2 : r ≤ 122
    · have HF : Hid (smallB r = true) := decide_eq_true ⟨h1, h2⟩
      go_enter Tryd.func72, Tryd.ntmps72
      go_wp2
      go_ret
      exact ⟨ret_bool HF.out.symm, rfl⟩
    · have HF : Hid (smallB r = false) := decide_eq_false (by omega)
      go_enter Tryd.func72, Tryd.ntmps72
      go_wp2
      go_ret
      exact ⟨ret_bool HF.out.symm, rfl⟩
  · have HF : Hid (smallB r = false) := decide_eq_false (by omega)
    have hd : decide (97 ≤ r) = false := by simpa using h1
    go_enter Tryd.func72, Tryd.ntmps72
    go_wp2
    go_ret
    exact ⟨ret_bool HF.out.symm, rfl⟩
theorem digit_any (r : Int) (w : World) : Calls Tryd.prog 73 #[.int .i32 r] w fun e w' => e = .returned (.bool (digitB r)) ∧ w = w' := by
  by_cases h1 : 48 ≤ r
  · by_cases h2 : r ≤ 57
    · have HF : Hid (digitB r = true) := decide_eq_true ⟨h1, h2⟩
      go_enter Tryd.func73, Tryd.ntmps73
      go_wp2
      go_ret
      exact ⟨ret_bool HF.out.symm, rfl⟩
    · have HF : Hid (digitB r = false) := decide_eq_false (by omega)
      go_enter Tryd.func73, Tryd.ntmps73
      go_wp2
      go_ret
      exact ⟨ret_bool HF.out.symm, rfl⟩
  · have HF : Hid (digitB r = false) := decide_eq_false (by omega)
    have hd : decide (48 ≤ r) = false := by simpa using h1
    go_enter Tryd.func73, Tryd.ntmps73
    go_wp2
    go_ret
    exact ⟨ret_bool HF.out.symm, rfl⟩

set_option maxRecDepth 100000 in
set_option maxHeartbeats 1000000 in
theorem name_any (s : ByteArray) (w : World) (hs : s.size ≤ maxLen) :
    Calls Tryd.prog 64 #[.string s] w fun e w' => e = .returned (.bool (nameB s)) ∧ Below w.heap.size w w' := by
  unfold maxLen at hs
  by_cases hz : s.size < 1
  · have HF := Lib.hid (nameB_size (s := s) (Or.inl hz))
    go_enter Tryd.func64, Tryd.ntmps64
    go_wp2_with fail
    go_ret
    exact ⟨ret_bool HF.out.symm, Below.refl _ _⟩
  by_cases hz2 : 16 < s.size
  · have HF := Lib.hid (nameB_size (s := s) (Or.inr hz2))
    go_enter Tryd.func64, Tryd.ntmps64
    go_wp2_with fail
    go_ret
    exact ⟨ret_bool HF.out.symm, Below.refl _ _⟩
  have hb1 : decide ((s.size : Int) < 1) = false := by simp; omega
  have hb2 : decide (16 < (s.size : Int)) = false := by simp; omega
  go_enter Tryd.func64, Tryd.ntmps64
  go_wp2_with fail
  go_loopw [2] (fun _ w' => ∃ (pos : Nat), w' = w.iter s pos ∧ pos ≤ s.size ∧ Hid (∀ i (h : i < s.size), i < pos → okAt i (s[i].toNat : Int) = true)) (fun _ w' => s.size - w'.iterPos w.heap.size)
  case atStart => exact ⟨0, rfl, Nat.zero_le _, fun i _ hi => by omega⟩
  case round =>
    obtain ⟨pos, rfl, hpos, hok⟩ := hrel
    have hbel : Below w.heap.size w (w.iter s (pos + (Utf8.decode s pos).2)) := (Below.refl _ w).alloc (Nat.le_refl _) _
    have hbel0 : Below w.heap.size w (w.iter s pos) := (Below.refl _ w).alloc (Nat.le_refl _) _
    by_cases hp : pos < s.size
    · have hnx : ∀ ty, (Instr.next (.pointer (some ⟨w.heap.size, 0, none⟩)) true ty).run Tryd.prog (w.iter s pos) = _ := fun ty => run_next_any w s pos ty hp
      have hru := rune_at s pos hp
      have HOK : Hid ((okAt pos ((Utf8.decode s pos).1 : Int) = true → okAt pos (s[pos].toNat : Int) = true ∧ (Utf8.decode s pos).2 = 1) ∧ (okAt pos ((Utf8.decode s pos).1 : Int) = false → okAt pos (s[pos].toNat : Int) = false)) := by
        show _ ∧ _
        rcases hru with ⟨c, hc, he, hcc⟩ | ⟨h1, h2, h3⟩
        · rw [he, hcc]; exact ⟨fun h => ⟨h, rfl⟩, fun h => h⟩
        · rw [okAt_high _ _ (by omega : (128 : Int) ≤ ((Utf8.decode s pos).1 : Int)), okAt_high _ _ (by omega : (128 : Int) ≤ (s[pos].toNat : Int))]; exact ⟨(fun h => by cases h), fun h => h⟩
      clear hru
      generalize hd : Utf8.decode s pos = d at *
      obtain ⟨r, wd⟩ := d
      clear hd
      dsimp only at hnx HOK hbel
      cases h1 : smallB (r : Int) with
      | true =>
        have HK : Hid (okAt pos (r : Int) = true) := by show _ = _; simp [okAt, h1]
        go_wp2_with (first | (go_at_call 72; refine (small_any _ _).mono ?_; rintro e w' ⟨rfl, rfl⟩) | (go_at_call 73; refine (digit_any _ _).mono ?_; rintro e w' ⟨rfl, rfl⟩))
        go_roundw
        case rel =>
          obtain ⟨g1, g2⟩ := HOK.out.1 HK.out
          refine ⟨pos + wd, rfl, by omega, fun i hi hi2 => ?_⟩
          by_cases e : i = pos
          · subst e; exact g1
          · exact hok.out i hi (by omega)
        case measure =>
          obtain ⟨g1, g2⟩ := HOK.out.1 HK.out
          simp
          omega
      | false =>
      by_cases h2 : pos = 0
      · have HK : Hid (okAt pos (r : Int) = false) := by show _ = _; simp [okAt, h1, h2]
        have h2' : ((pos : Int) == 0) = true := by simp [h2]
        clear h2
        go_wp2_with (first | (go_at_call 72; refine (small_any _ _).mono ?_; rintro e w' ⟨rfl, rfl⟩) | (go_at_call 73; refine (digit_any _ _).mono ?_; rintro e w' ⟨rfl, rfl⟩))
        go_ret
        exact ⟨ret_bool (nameB_false hp (HOK.out.2 HK.out)).symm, hbel⟩
      have h2' : ((pos : Int) == 0) = false := by simp [h2]
      cases h3 : digitB (r : Int) with
      | true =>
        have HK : Hid (okAt pos (r : Int) = true) := by show _ = _; simp [okAt, h1, h2, h3]
        clear h2
        go_wp2_with (first | (go_at_call 72; refine (small_any _ _).mono ?_; rintro e w' ⟨rfl, rfl⟩) | (go_at_call 73; refine (digit_any _ _).mono ?_; rintro e w' ⟨rfl, rfl⟩))
        go_roundw
        case rel =>
          obtain ⟨g1, g2⟩ := HOK.out.1 HK.out
          refine ⟨pos + wd, rfl, by omega, fun i hi hi2 => ?_⟩
          by_cases e : i = pos
          · subst e; exact g1
          · exact hok.out i hi (by omega)
        case measure =>
          obtain ⟨g1, g2⟩ := HOK.out.1 HK.out
          simp
          omega
      | false =>
      by_cases h4 : (r : Int) = 95
      · have HK : Hid (okAt pos (r : Int) = true) := by show _ = _; simp [okAt, h2, h4]
        have h4' : ((r : Int) != 95) = false := by simp [h4]
        clear h2 h4
        go_wp2_with (first | (go_at_call 72; refine (small_any _ _).mono ?_; rintro e w' ⟨rfl, rfl⟩) | (go_at_call 73; refine (digit_any _ _).mono ?_; rintro e w' ⟨rfl, rfl⟩))
        go_roundw
        case rel =>
          obtain ⟨g1, g2⟩ := HOK.out.1 HK.out
          refine ⟨pos + wd, rfl, by omega, fun i hi hi2 => ?_⟩
          by_cases e : i = pos
          · subst e; exact g1
          · exact hok.out i hi (by omega)
        case measure =>
          obtain ⟨g1, g2⟩ := HOK.out.1 HK.out
          simp
          omega
      · have HK : Hid (okAt pos (r : Int) = false) := by show _ = _; simp [okAt, h1, h3, h4]
        have h4' : ((r : Int) != 95) = true := by simp [h4]
        clear h2 h4
        go_wp2_with (first | (go_at_call 72; refine (small_any _ _).mono ?_; rintro e w' ⟨rfl, rfl⟩) | (go_at_call 73; refine (digit_any _ _).mono ?_; rintro e w' ⟨rfl, rfl⟩))
        go_ret
        exact ⟨ret_bool (nameB_false hp (HOK.out.2 HK.out)).symm, hbel⟩
    · have hnx : ∀ ty, (Instr.next (.pointer (some ⟨w.heap.size, 0, none⟩)) true ty).run Tryd.prog (w.iter s pos) = _ := fun ty => run_next_end w s pos ty hp
      have HF := Lib.hid (nameB_true (s := s) (by omega) (by omega) (fun i hi => hok.out i hi (by omega)))
      go_wp2_with fail
      go_ret
      exact ⟨ret_bool HF.out.symm, hbel0⟩

set_option maxRecDepth 100000 in
set_option maxHeartbeats 1000000 in
theorem rightText_any (s : ByteArray) (w : World) (hs : s.size ≤ maxLen) :
    Calls Tryd.prog 63 #[.string s] w fun e w' => e = .returned (.bool (textB s)) ∧ Below w.heap.size w w' := by
  unfold maxLen at hs
  by_cases hz2 : 32 < s.size
  · have HF := Lib.hid (textB_size (s := s) hz2)
    go_enter Tryd.func63, Tryd.ntmps63
    go_wp2_with fail
    go_ret
    exact ⟨ret_bool HF.out.symm, Below.refl _ _⟩
  have hb2 : decide (32 < (s.size : Int)) = false := by simp; omega
  go_enter Tryd.func63, Tryd.ntmps63
  go_wp2_with fail
  go_loopw [2] (fun _ w' => ∃ (pos : Nat), w' = w.iter s pos ∧ pos ≤ s.size ∧ Hid (∀ i (h : i < s.size), i < pos → okText (s[i].toNat : Int) = true)) (fun _ w' => s.size - w'.iterPos w.heap.size)
  case atStart => exact ⟨0, rfl, Nat.zero_le _, fun i _ hi => by omega⟩
  case round =>
    obtain ⟨pos, rfl, hpos, hok⟩ := hrel
    have hbel : Below w.heap.size w (w.iter s (pos + (Utf8.decode s pos).2)) := (Below.refl _ w).alloc (Nat.le_refl _) _
    have hbel0 : Below w.heap.size w (w.iter s pos) := (Below.refl _ w).alloc (Nat.le_refl _) _
    by_cases hp : pos < s.size
    · have hnx : ∀ ty, (Instr.next (.pointer (some ⟨w.heap.size, 0, none⟩)) true ty).run Tryd.prog (w.iter s pos) = _ := fun ty => run_next_any w s pos ty hp
      have hru := rune_at s pos hp
      have HOK : Hid ((okText ((Utf8.decode s pos).1 : Int) = true → okText (s[pos].toNat : Int) = true ∧ (Utf8.decode s pos).2 = 1) ∧ (okText ((Utf8.decode s pos).1 : Int) = false → okText (s[pos].toNat : Int) = false)) := by
        show _ ∧ _
        rcases hru with ⟨c, hc, he, hcc⟩ | ⟨h1, h2, h3⟩
        · rw [he, hcc]; exact ⟨fun h => ⟨h, rfl⟩, fun h => h⟩
        · rw [okText_high _ (by omega : (128 : Int) ≤ ((Utf8.decode s pos).1 : Int)), okText_high _ (by omega : (128 : Int) ≤ (s[pos].toNat : Int))]; exact ⟨(fun h => by cases h), fun h => h⟩
      clear hru
      generalize hd : Utf8.decode s pos = d at *
      obtain ⟨r, wd⟩ := d
      clear hd
      dsimp only at hnx HOK hbel
      by_cases h1 : (r : Int) < 32
      · have HK : Hid (okText (r : Int) = false) := decide_eq_false (by omega)
        have h1' : decide ((r : Int) < 32) = true := by simpa using h1
        go_wp2_with fail
        go_ret
        exact ⟨ret_bool (textB_false hp (HOK.out.2 HK.out)).symm, hbel⟩
      have h1' : decide ((r : Int) < 32) = false := by simpa using h1
      by_cases h2 : 126 < (r : Int)
      · have HK : Hid (okText (r : Int) = false) := decide_eq_false (by omega)
        have h2' : decide (126 < (r : Int)) = true := by simpa using h2
        go_wp2_with fail
        go_ret
        exact ⟨ret_bool (textB_false hp (HOK.out.2 HK.out)).symm, hbel⟩
      have h2' : decide (126 < (r : Int)) = false := by simpa using h2
      by_cases h3 : (r : Int) = 34
      · have HK : Hid (okText (r : Int) = false) := decide_eq_false (by omega)
        have h3' : ((r : Int) == 34) = true := by simp [h3]
        clear h3
        go_wp2_with fail
        go_ret
        exact ⟨ret_bool (textB_false hp (HOK.out.2 HK.out)).symm, hbel⟩
      have h3' : ((r : Int) == 34) = false := by simp [h3]
      by_cases h4 : (r : Int) = 92
      · have HK : Hid (okText (r : Int) = false) := decide_eq_false (by omega)
        have h4' : ((r : Int) == 92) = true := by simp [h4]
        clear h3 h4
        go_wp2_with fail
        go_ret
        exact ⟨ret_bool (textB_false hp (HOK.out.2 HK.out)).symm, hbel⟩
      · have HK : Hid (okText (r : Int) = true) := decide_eq_true (by omega)
        have h4' : ((r : Int) == 92) = false := by simp [h4]
        clear h3 h4
        go_wp2_with fail
        go_roundw
        case rel =>
          obtain ⟨g1, g2⟩ := HOK.out.1 HK.out
          refine ⟨pos + wd, rfl, by omega, fun i hi hi2 => ?_⟩
          by_cases e : i = pos
          · subst e; exact g1
          · exact hok.out i hi (by omega)
        case measure =>
          obtain ⟨g1, g2⟩ := HOK.out.1 HK.out
          simp
          omega
    · have hnx : ∀ ty, (Instr.next (.pointer (some ⟨w.heap.size, 0, none⟩)) true ty).run Tryd.prog (w.iter s pos) = _ := fun ty => run_next_end w s pos ty hp
      have HF := Lib.hid (textB_true (s := s) (by omega) (fun i hi => hok.out i hi (by omega)))
      go_wp2_with fail
      go_ret
      exact ⟨ret_bool HF.out.symm, hbel0⟩

end Go.Proofs.YtaomlkglodeaoaaDoor
