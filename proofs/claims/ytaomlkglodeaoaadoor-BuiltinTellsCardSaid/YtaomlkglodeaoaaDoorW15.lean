/-
  The law's own 'Same' and 'Values': are two values the same, field by field?
-/
import Derived.Test.YtaomlkglodeaoaaDoorW01
import Derived.Test.YtaomlkglodeaoaaDoorW10
import Derived.Test.YtaomlkglodeaoaaDoorW14
import Derived.Test.YtaomlkglodeaoaaDoorW08
import Derived.Test.YtaomlkglodeaoaaDoorW05
import Derived.Test.YtaomlkglodeaoaaDoorW11
import Derived.Test.YtaomlkglodeaoaaDoorW02
import Derived.WalkSpells
import Derived.WalkLawsBesides
import Derived.StillTailTactics
namespace Go.Proofs.YtaomlkglodeaoaaDoor
open Go.RowKit

mutual
def sameV : V → V → Bool
  | .mk k n s l, .mk k' n' s' l' => (k == k') && (n == n') && (s.toList == s'.toList) && sameL l l'
def sameL : List V → List V → Bool
  | [], [] => true
  | [], _ :: _ => false
  | _ :: _, [] => false
  | x :: l, y :: m => sameV x y && sameL l m
end

def SameAt (x y : V) : Prop := ∀ (B : Nat) (w : World) (c0 c1 c2 c3 d0 d1 d2 d3 : Value), B ≤ w.heap.size → RepV B w x c0 c1 c2 c3 → RepV B w y d0 d1 d2 d3 →
  Calls Tryd.prog 11 #[.agg #[c0, c1, c2, c3], .agg #[d0, d1, d2, d3]] w fun e w' => e = .returned (.bool (sameV x y)) ∧ Below w.heap.size w w'
def ValuesAt (l m : List V) : Prop := ∀ (B : Nat) (w : World) (a b : Value), B ≤ w.heap.size → RepL B w l a → RepL B w m b →
  Calls Tryd.prog 32 #[a, b] w fun e w' => e = .returned (.bool (sameL l m)) ∧ Below w.heap.size w w'

theorem sameL_len : ∀ {l m : List V}, l.length ≠ m.length → sameL l m = false
  | [], [], h => absurd rfl h
  | [], _ :: _, _ => by simp [sameL]
  | _ :: _, [], _ => by simp [sameL]
  | x :: l, y :: m, h => by simp [sameL, sameL_len (l := l) (m := m) (by simpa using h)]
theorem sameL_at {l m : List V} {k : Nat} (hl : k < l.length) (hm : k < m.length) : sameL (l.drop k) (m.drop k) = (sameV l[k] m[k] && sameL (l.drop (k + 1)) (m.drop (k + 1))) := by
  rw [List.drop_eq_getElem_cons hl, List.drop_eq_getElem_cons hm, sameL]

theorem retB {a b : Bool} (h : a = b) : Ending.returned (.bool a) = .returned (.bool b) := by rw [h]

set_option maxRecDepth 100000 in
set_option maxHeartbeats 1000000 in
theorem values_of (l m : List V) (hC : ∀ x, x ∈ l → ∀ y, SameAt x y) : ValuesAt l m := by
  intro B w a b hB ha hb
  obtain ⟨aa, ab, ao, ac, rfl, hal, hac, haa, hab, hax⟩ := ha
  obtain ⟨ba, bb, bo, bc, rfl, hbl, hbc, hba, hbb, hbx⟩ := hb
  have HC := Lib.hid hC; clear hC
  have HAX := Lib.hid hax; clear hax
  have HBX := Lib.hid hbx; clear hbx
  have HAA := Lib.hid haa; clear haa
  have HBA := Lib.hid hba; clear hba
  by_cases hne : l.length = m.length
  · have hn' : ((l.length : Int) != (m.length : Int)) = false := by simp; omega
    have HNE := Lib.hid hne
    have hle1 : l.length ≤ m.length := by omega
    have hle2 : m.length ≤ l.length := by omega
    clear hne
    go_enter Tryd.func32, Tryd.ntmps32
    go_wp2_with fail
    go_loopw [5] (fun i wr => ∃ k : Nat, k ≤ l.length ∧ i = .int .i64 k ∧ Hid (sameL l m = sameL (l.drop k) (m.drop k)) ∧ Below w.heap.size w wr) (fun i _ => l.length - (intOf i).toNat)
    case atStart => exact ⟨0, Nat.zero_le _, rfl, rfl, Below.refl _ _⟩
    case round =>
      obtain ⟨k, hk1, rfl, hrec, hbel⟩ := hrel
      by_cases hl : k < l.length
      · have hm : k < m.length := by omega
        obtain ⟨x0, x1, x2, x3, g0, g1, g2, g3, gr⟩ := HAX.out k hl
        obtain ⟨y0, y1, y2, y3, e0, e1, e2, e3, er⟩ := HBX.out k hm
        have hab' : ab < B := hab (by omega)
        have hbb' : bb < B := hbb (by omega)
        obtain rfl := HAA.out (by omega)
        obtain rfl := HBA.out (by omega)
        rw [← hbel.cell (by simp; omega)] at g0 g1 g2 g3 e0 e1 e2 e3
        go_wp2_with fail
        go_still_tail 8, (by kernel_rfl)
        change wpList _ _ _ _ _ wr.drew
        have hbel2 : Below w.heap.size w wr.drew := hbel.drew
        clear g0 g1 g2 g3 e0 e1 e2 e3 hbel
        generalize wr.drew = w2 at *
        have hs := hbel2.size
        go_wp2_with fail
        refine (HC.out _ (List.getElem_mem hl) _ B w2 _ _ _ _ _ _ _ _ (by omega) (RepV.below (fun j hj => hbel2.block j (by omega)) _ gr) (RepV.below (fun j hj => hbel2.block j (by omega)) _ er)).mono ?_
        rintro e w3 ⟨rfl, hbel3⟩
        have hbel4 : Below w.heap.size w w3 := hbel2.trans (hbel3.mono hs)
        have HN := Lib.hid (sameL_at hl hm)
        cases hc : sameV l[k] m[k] with
        | true =>
          have HCZ := Lib.hid hc; clear hc
          go_wp2_with fail
          go_roundw
          case rel => exact ⟨k + 1, by omega, by go_num, by show _ = _; rw [hrec.out, HN.out, HCZ.out, Bool.true_and], hbel4⟩
          case measure => simp [intOf]; omega
        | false =>
          have HCZ := Lib.hid hc; clear hc
          go_wp2_with fail
          go_ret
          exact ⟨retB (by rw [hrec.out, HN.out, HCZ.out, Bool.false_and]), hbel4⟩
      · have HF : Hid (sameL l m = true) := by
          show _ = _
          rw [hrec.out, List.drop_of_length_le (by omega), List.drop_of_length_le (by have := HNE.out; omega), sameL]
        go_wp2_with fail
        go_ret
        exact ⟨retB HF.out.symm, hbel⟩
  · have hn' : ((l.length : Int) != (m.length : Int)) = true := by simp; omega
    have HF := Lib.hid (sameL_len hne)
    clear hne
    go_enter Tryd.func32, Tryd.ntmps32
    go_wp2_with fail
    go_ret
    exact ⟨retB HF.out.symm, Below.refl _ _⟩

set_option maxRecDepth 100000 in
set_option maxHeartbeats 1000000 in
theorem same_any (x y : V) : SameAt x y := by
  match x, y with
  | .mk k n s l, .mk k' n' s' l' =>
  have hC : ∀ z, z ∈ l → ∀ y, SameAt z y := fun z _hz y => same_any z y
  have HC := Lib.hid hC; clear hC
  intro B w c0 c1 c2 c3 d0 d1 d2 d3 hB hx hy
  rw [repV_mk] at hx hy
  obtain ⟨rfl, rfl, rfl, hk, hn, hs, hl⟩ := hx
  obtain ⟨rfl, rfl, rfl, hk', hn', hs', hl'⟩ := hy
  have HL := Lib.hid hl
  have HL' := Lib.hid hl'
  obtain ⟨aa, ab, ao, ac, rfl, -⟩ := hl
  obtain ⟨ba, bb, bo, bc, rfl, -⟩ := hl'
  have hbb : Below w.heap.size w ((w.alloc (.cells #[.int .i64 k, .int .i64 n, .string s, .slice aa l.length ac] 24)).alloc (.cells #[.int .i64 k', .int .i64 n', .string s', .slice ba l'.length bc] 24)) :=
    ((Below.refl _ w).alloc (Nat.le_refl _) _).alloc (by simp) _
  by_cases e : k = k'
  · subst e
    by_cases e2 : n = n'
    · subst e2
      cases e3 : (s.toList == s'.toList) with
      | true =>
        have e3' : s.toList = s'.toList := by simpa using e3
        have HE := Lib.hid e3
        have hz : (!(s.toList == s'.toList)) = false := by simp [e3']
        clear e3'
        go_enter Tryd.func11, Tryd.ntmps11
        go_wp2_with fail
        refine (values_of l l' HC.out B _ _ _ (by simp; omega) (RepL.below (fun j hj => hbb.block j (by omega)) HL.out) (RepL.below (fun j hj => hbb.block j (by omega)) HL'.out)).mono ?_
        rintro e w' ⟨rfl, hb⟩
        have hb4 : Below w.heap.size w w' := hbb.trans (hb.mono (by simp; omega))
        go_wp2_with fail
        go_ret
        exact ⟨retB (by simp [sameV, HE.out]), hb4⟩
      | false =>
        have HE := Lib.hid e3
        have hz : ¬ (s.toList = s'.toList) := by simpa using e3
        go_enter Tryd.func11, Tryd.ntmps11
        go_wp2_with fail
        go_ret
        exact ⟨retB (by simp [sameV, HE.out]), hbb⟩
    · have f2 : (n == n') = false := by simp [e2]
      have HE := Lib.hid f2
      clear e2
      go_enter Tryd.func11, Tryd.ntmps11
      go_wp2_with fail
      go_ret
      exact ⟨retB (by simp [sameV, HE.out]), hbb⟩
  · have f1 : (k == k') = false := by simp [e]
    have HE := Lib.hid f1
    clear e
    go_enter Tryd.func11, Tryd.ntmps11
    go_wp2_with fail
    go_ret
    exact ⟨retB (by simp [sameV, HE.out]), hbb⟩
  termination_by SizeOf.sizeOf x
  decreasing_by
    have := List.sizeOf_lt_of_mem _hz
    simp only [V.mk.sizeOf_spec]
    omega

theorem toList_inj {s s' : ByteArray} (h : s.toList = s'.toList) : s = s' := by
  rw [Lib.toList_data, Lib.toList_data] at h
  exact ByteArray.ext (Array.toList_inj.1 h)
mutual
theorem sameV_iff (x y : V) : sameV x y = true ↔ x = y := by
  match x, y with
  | .mk k n s l, .mk k' n' s' l' =>
    rw [sameV, V.mk.injEq]
    simp only [Bool.and_eq_true, beq_iff_eq, sameL_iff l l']
    constructor
    · rintro ⟨⟨⟨h1, h2⟩, h3⟩, h4⟩; exact ⟨h1, h2, toList_inj h3, h4⟩
    · rintro ⟨h1, h2, h3, h4⟩; exact ⟨⟨⟨h1, h2⟩, by rw [h3]⟩, h4⟩
  termination_by SizeOf.sizeOf x
  decreasing_by simp only [V.mk.sizeOf_spec]; omega
theorem sameL_iff (l m : List V) : sameL l m = true ↔ l = m := by
  match l, m with
  | [], [] => simp [sameL]
  | [], _ :: _ => simp [sameL]
  | _ :: _, [] => simp [sameL]
  | x :: l, y :: m =>
    rw [sameL, Bool.and_eq_true, sameV_iff x y, sameL_iff l m, List.cons.injEq]
  termination_by SizeOf.sizeOf l
end

end Go.Proofs.YtaomlkglodeaoaaDoor

/-
  For layer 2's laws: rows of arguments, and Same of what is the same.
-/
namespace Go.Proofs.YtaomlkglodeaoaaDoor
open Go.RowKit

theorem one_at {v w : World} {b : Nat} {x : V} {c0 c1 c2 c3 : Value} (hb : w.heap[b]? = some (.cells #[c0, c1, c2, c3] 24 (0, 0))) (hv : Below v.heap.size v w) (hx : RepV v.heap.size v x c0 c1 c2 c3) : RepL w.heap.size w [x] (.slice (some ⟨b, 0, none⟩) 1 1) :=
  one_in (S := fun b => b < v.heap.size) hb (RepV.below (fun j hj => hv.block j hj) x hx) (fun _k hk => Nat.lt_of_lt_of_le hk hv.size)
theorem two_at {v w : World} {b : Nat} {x y : V} {c0 c1 c2 c3 d0 d1 d2 d3 : Value} (hb : w.heap[b]? = some (.cells #[c0, c1, c2, c3, d0, d1, d2, d3] 24 (0, 0))) (hv : Below v.heap.size v w) (hx : RepV v.heap.size v x c0 c1 c2 c3) (hy : RepV v.heap.size v y d0 d1 d2 d3) : RepL w.heap.size w [x, y] (.slice (some ⟨b, 0, none⟩) 2 2) :=
  two_in (S := fun b => b < v.heap.size) hb hv hx hy (fun _ h => h)
theorem same_one (x : V) (B : Nat) (w : World) (c0 c1 c2 c3 d0 d1 d2 d3 : Value) (hB : B ≤ w.heap.size) (h1 : RepV B w x c0 c1 c2 c3) (h2 : RepV B w x d0 d1 d2 d3) :
    Calls Tryd.prog 11 #[.agg #[c0, c1, c2, c3], .agg #[d0, d1, d2, d3]] w fun e w' => e = .returned (.bool true) ∧ Below w.heap.size w w' :=
  (same_any x x B w c0 c1 c2 c3 d0 d1 d2 d3 hB h1 h2).mono fun e w' ⟨he, hb⟩ => ⟨by rw [he, (sameV_iff x x).2 rfl], hb⟩

end Go.Proofs.YtaomlkglodeaoaaDoor

/-
  Layer 2's own 'names': a row of the nine functions' names.
-/
namespace Go.Proofs.YtaomlkglodeaoaaDoor
open Go.RowKit

/-- A row of strings in block b that holds the nine names. -/
def NamesAt (w : World) (b : Nat) : Prop := ∀ k, k < 9 → w.cell? ⟨b, k, none⟩ = some (.string ⟨(fname k).toArray⟩)
theorem NamesAt.on {w w' : World} {b : Nat} (h : NamesAt w b) (hb : Below w.heap.size w w') (hl : b < w.heap.size) : NamesAt w' b := fun k hk => (hb.cell (p := ⟨b, k, none⟩) hl).trans (h k hk)
def namesRow : Array Value := #[.string ⟨(fname 0).toArray⟩, .string ⟨(fname 1).toArray⟩, .string ⟨(fname 2).toArray⟩, .string ⟨(fname 3).toArray⟩, .string ⟨(fname 4).toArray⟩, .string ⟨(fname 5).toArray⟩, .string ⟨(fname 6).toArray⟩, .string ⟨(fname 7).toArray⟩, .string ⟨(fname 8).toArray⟩]
theorem names_new (w : World) (t : TypeId) : NamesAt (w.alloc (.cells namesRow t)) w.heap.size := by
  intro k hk
  refine cell_of_block' (alloc_new' w _) _ ?_
  match k, hk with
  | 0, _ => rfl | 1, _ => rfl | 2, _ => rfl | 3, _ => rfl | 4, _ => rfl | 5, _ => rfl | 6, _ => rfl | 7, _ => rfl | 8, _ => rfl
def NamesPost (w : World) (e : Ending) (w' : World) : Prop := e = .returned (.slice (some ⟨w.heap.size, 0, none⟩) 9 9) ∧ NamesAt w' w.heap.size ∧ w.heap.size < w'.heap.size ∧ Below w.heap.size w w'

set_option maxRecDepth 100000 in
set_option maxHeartbeats 1000000 in
theorem names_any (w : World) : Calls Tryd.prog 14 #[] w (NamesPost w) := by
  go_enter Tryd.func14, Tryd.ntmps14
  go_wp2_with fail
  go_ret
  exact ⟨rfl, names_new w _, by simp, (Below.refl _ w).alloc (Nat.le_refl _) _⟩

end Go.Proofs.YtaomlkglodeaoaaDoor

/-
  What comes out of Call and Op is right, and comes of right values alone.
-/
namespace Go.Proofs.YtaomlkglodeaoaaDoor
open Go.RowKit

theorem call_right {k : Nat} {args : List V} {r : V} (h : callV k args = some r) : rightV 4 r = true ∧ takesB k args = true := by
  unfold callV at h
  split at h
  · rename_i hc; cases h; exact ⟨hc.2, hc.1⟩
  · cases h
theorem takes_right {k : Nat} {args : List V} (h : takesB k args = true) : (∀ x ∈ args, rightV 4 x = true) ∧ (args.length : Int) = fnArity k := by
  rcases takes_args h with ⟨x, rfl, har, hx⟩ | ⟨x, y, rfl, har, hx, hy⟩
  · exact ⟨fun z hz => by simp at hz; rw [hz]; exact hx, by rw [har]; rfl⟩
  · refine ⟨fun z hz => ?_, by rw [har]; rfl⟩
    simp at hz
    rcases hz with rfl | rfl
    · exact hx
    · exact hy
theorem op_right {s : ByteArray} {a b : V} {n : Int} (h : opZ s a b = some n) : rightV 4 (numV n) = true ∧ rightV 4 a = true ∧ rightV 4 b = true := by
  unfold opZ at h
  split at h
  · rename_i hc
    have ha := hc.1
    have hb := hc.2
    rw [numB, Bool.and_eq_true] at ha hb
    split at h
    · cases h
    · split at h
      · rename_i hr
        cases h
        exact ⟨hr, ha.2, hb.2⟩
      · cases h
  · cases h

end Go.Proofs.YtaomlkglodeaoaaDoor

/-
  The document's own Arity: of any name.
-/
namespace Go.Proofs.YtaomlkglodeaoaaDoor
open Go.RowKit

def ArPost (k : Nat) (w : World) (e : Ending) (w' : World) : Prop := e = .returned (.int .i64 (fnArity k)) ∧ w = w'
set_option maxRecDepth 100000 in
set_option maxHeartbeats 2000000 in
theorem refArity_any (s : ByteArray) (w : World) : Calls Tryd.prog 10 #[.string s] w (ArPost (fnOf s) w) := by
  unfold fnOf
  cases h0 : (s.toList == [102, 95, 99, 111, 110, 115]) with
  | true =>
    rw [if_pos rfl]
    go_enter Tryd.func10, Tryd.ntmps10
    go_wp2_with fail
    go_ret
    exact ⟨rfl, rfl⟩
  | false =>
  rw [if_neg (by decide)]
  cases h1 : (s.toList == [102, 95, 97, 112, 112, 101, 110, 100]) with
  | true =>
    rw [if_pos rfl]
    go_enter Tryd.func10, Tryd.ntmps10
    go_wp2_with fail
    go_ret
    exact ⟨rfl, rfl⟩
  | false =>
  rw [if_neg (by decide)]
  cases h2 : (s.toList == [102, 95, 99, 111, 110, 99, 97, 116]) with
  | true =>
    rw [if_pos rfl]
    go_enter Tryd.func10, Tryd.ntmps10
    go_wp2_with fail
    go_ret
    exact ⟨rfl, rfl⟩
  | false =>
  rw [if_neg (by decide)]
  cases h3 : (s.toList == [102, 95, 109, 101, 109, 98, 101, 114]) with
  | true =>
    rw [if_pos rfl]
    go_enter Tryd.func10, Tryd.ntmps10
    go_wp2_with fail
    go_ret
    exact ⟨rfl, rfl⟩
  | false =>
  rw [if_neg (by decide)]
  cases h4 : (s.toList == [102, 95, 115, 105, 122, 101]) with
  | true =>
    rw [if_pos rfl]
    go_enter Tryd.func10, Tryd.ntmps10
    go_wp2_with fail
    go_ret
    exact ⟨rfl, rfl⟩
  | false =>
  rw [if_neg (by decide)]
  cases h5 : (s.toList == [102, 95, 102, 105, 114, 115, 116]) with
  | true =>
    rw [if_pos rfl]
    go_enter Tryd.func10, Tryd.ntmps10
    go_wp2_with fail
    go_ret
    exact ⟨rfl, rfl⟩
  | false =>
  rw [if_neg (by decide)]
  cases h6 : (s.toList == [102, 95, 108, 97, 115, 116]) with
  | true =>
    rw [if_pos rfl]
    go_enter Tryd.func10, Tryd.ntmps10
    go_wp2_with fail
    go_ret
    exact ⟨rfl, rfl⟩
  | false =>
  rw [if_neg (by decide)]
  cases h7 : (s.toList == [102, 95, 114, 101, 115, 116]) with
  | true =>
    rw [if_pos rfl]
    go_enter Tryd.func10, Tryd.ntmps10
    go_wp2_with fail
    go_ret
    exact ⟨rfl, rfl⟩
  | false =>
  rw [if_neg (by decide)]
  cases h8 : (s.toList == [102, 95, 114, 101, 118, 101, 114, 115, 101]) with
  | true =>
    rw [if_pos rfl]
    go_enter Tryd.func10, Tryd.ntmps10
    go_wp2_with fail
    go_ret
    exact ⟨rfl, rfl⟩
  | false =>
  rw [if_neg (by decide)]
  go_enter Tryd.func10, Tryd.ntmps10
  go_wp2_with fail
  go_ret
  exact ⟨rfl, rfl⟩

end Go.Proofs.YtaomlkglodeaoaaDoor

/-
  The document's own answers, as contracts: Name, sign, digits and the makers.
-/
namespace Go.Proofs.YtaomlkglodeaoaaDoor
open Go.RowKit

set_option maxRecDepth 100000 in
set_option maxHeartbeats 2000000 in
theorem refName_any (s : ByteArray) (w : World) (hs : s.size ≤ maxLen) :
    Calls Tryd.prog 66 #[.string s] w fun e w' => e = .returned (.bool (nameB s)) ∧ w = w' := by
  unfold maxLen at hs
  by_cases hz : s.size < 1
  · have HF := Lib.hid (nameB_size (s := s) (Or.inl hz))
    have hb1 : decide ((s.size : Int) < 1) = true := by simp; omega
    go_enter Tryd.func66, Tryd.ntmps66
    go_wp2_with fail
    go_ret
    exact ⟨ret_bool HF.out.symm, rfl⟩
  have hb1 : decide ((s.size : Int) < 1) = false := by simp; omega
  by_cases hz2 : 16 < s.size
  · have HF := Lib.hid (nameB_size (s := s) (Or.inr hz2))
    have hb2 : decide (16 < (s.size : Int)) = true := by simp; omega
    go_enter Tryd.func66, Tryd.ntmps66
    go_wp2_with fail
    go_ret
    exact ⟨ret_bool HF.out.symm, rfl⟩
  have hb2 : decide (16 < (s.size : Int)) = false := by simp; omega
  have h0 : 0 < s.size := by omega
  have h0u : (s[0].toNat : Int) ≤ 255 := by have := s[0].toNat_lt; omega
  by_cases hc : 97 ≤ (s[0].toNat : Int) ∧ (s[0].toNat : Int) ≤ 122
  · obtain ⟨hc1, hc2⟩ := hc
    have H0 : Hid (okAt 0 (s[0].toNat : Int) = true) := by show _ = _; simp only [okAt, smallB]; simp; omega
    have t1 : decide ((s[0].toNat : Int) < 97) = false := by simp; omega
    have t2 : decide (122 < (s[0].toNat : Int)) = false := by simp; omega
    go_enter Tryd.func66, Tryd.ntmps66
    go_wp2_with fail
    go_loop [3] (fun i => ∃ k : Nat, 1 ≤ k ∧ k ≤ s.size ∧ i = .int .i64 k ∧ Hid (∀ i (h : i < s.size), i < k → okAt i (s[i].toNat : Int) = true)) (fun i => s.size - (intOf i).toNat)
    case atStart => exact ⟨1, Nat.le_refl _, by omega, rfl, fun i _ hi => by obtain rfl : i = 0 := by omega
                                                                             exact H0.out⟩
    case round =>
      obtain ⟨k, hk1, hk2, rfl, hok⟩ := hrel
      clear t1 t2 hb1 hb2
      by_cases hlt : k < s.size
      · have hcd : ∃ c : UInt8, s[k] = c := ⟨_, rfl⟩
        obtain ⟨c, hcd⟩ := hcd
        have HC := Lib.hid hcd
        have hidx : (s[k].toNat : Int) = (c.toNat : Int) := by rw [hcd]
        have hcu : (c.toNat : Int) ≤ 255 := by have := c.toNat_lt; omega
        clear hidx
        have hcases : (97 ≤ (c.toNat : Int) ∧ (c.toNat : Int) ≤ 122) ∨ 122 < (c.toNat : Int) ∨ (c.toNat : Int) < 48 ∨ (48 ≤ (c.toNat : Int) ∧ (c.toNat : Int) ≤ 57) ∨ (c.toNat : Int) = 95 ∨ (57 < (c.toNat : Int) ∧ (c.toNat : Int) < 97 ∧ (c.toNat : Int) ≠ 95) := by omega
        rcases hcases with ⟨a1, a2⟩ | a1 | a1 | ⟨a1, a2⟩ | a1 | ⟨a1, a2, a3⟩
        · have t97 : decide (97 ≤ (c.toNat : Int)) = true := by simp; omega
          have t122 : decide ((c.toNat : Int) ≤ 122) = true := by simp; omega
          have HOK : Hid (okAt k (c.toNat : Int) = true) := by show _ = _; simp only [okAt, smallB, digitB]; simp; omega
          go_wp2_with fail
          go_round
          case rel =>
            refine ⟨k + 1, by omega, by omega, by go_num, fun i hi hi2 => ?_⟩
            by_cases e : i = k
            · subst e; rw [HC.out]; exact HOK.out
            · exact hok.out i hi (by omega)
          case measure => simp [intOf]; omega
        · have t97 : decide (97 ≤ (c.toNat : Int)) = true := by simp; omega
          have t122 : decide ((c.toNat : Int) ≤ 122) = false := by simp; omega
          have t48 : decide (48 ≤ (c.toNat : Int)) = true := by simp; omega
          have t57 : decide ((c.toNat : Int) ≤ 57) = false := by simp; omega
          have t95 : ((c.toNat : Int) == 95) = false := by simp; omega
          have HOK : Hid (okAt k (c.toNat : Int) = false) := by show _ = _; simp only [okAt, smallB, digitB]; simp; omega
          go_wp2_with fail
          go_ret
          exact ⟨ret_bool (nameB_false hlt (by rw [HC.out]; exact HOK.out)).symm, rfl⟩
        · have t97 : decide (97 ≤ (c.toNat : Int)) = false := by simp; omega
          have t48 : decide (48 ≤ (c.toNat : Int)) = false := by simp; omega
          have t95 : ((c.toNat : Int) == 95) = false := by simp; omega
          have HOK : Hid (okAt k (c.toNat : Int) = false) := by show _ = _; simp only [okAt, smallB, digitB]; simp; omega
          go_wp2_with fail
          go_ret
          exact ⟨ret_bool (nameB_false hlt (by rw [HC.out]; exact HOK.out)).symm, rfl⟩
        · have t97 : decide (97 ≤ (c.toNat : Int)) = false := by simp; omega
          have t48 : decide (48 ≤ (c.toNat : Int)) = true := by simp; omega
          have t57 : decide ((c.toNat : Int) ≤ 57) = true := by simp; omega
          have HOK : Hid (okAt k (c.toNat : Int) = true) := by show _ = _; simp only [okAt, smallB, digitB]; simp; omega
          go_wp2_with fail
          go_round
          case rel =>
            refine ⟨k + 1, by omega, by omega, by go_num, fun i hi hi2 => ?_⟩
            by_cases e : i = k
            · subst e; rw [HC.out]; exact HOK.out
            · exact hok.out i hi (by omega)
          case measure => simp [intOf]; omega
        · have t97 : decide (97 ≤ (c.toNat : Int)) = false := by simp; omega
          have t48 : decide (48 ≤ (c.toNat : Int)) = true := by simp; omega
          have t57 : decide ((c.toNat : Int) ≤ 57) = false := by simp; omega
          have t95 : ((c.toNat : Int) == 95) = true := by simp; omega
          have HOK : Hid (okAt k (c.toNat : Int) = true) := by show _ = _; simp only [okAt, smallB, digitB]; simp; omega
          clear a1
          go_wp2_with fail
          go_round
          case rel =>
            refine ⟨k + 1, by omega, by omega, by go_num, fun i hi hi2 => ?_⟩
            by_cases e : i = k
            · subst e; rw [HC.out]; exact HOK.out
            · exact hok.out i hi (by omega)
          case measure => simp [intOf]; omega
        · have t97 : decide (97 ≤ (c.toNat : Int)) = false := by simp; omega
          have t48 : decide (48 ≤ (c.toNat : Int)) = true := by simp; omega
          have t57 : decide ((c.toNat : Int) ≤ 57) = false := by simp; omega
          have t95 : ((c.toNat : Int) == 95) = false := by simp; omega
          have HOK : Hid (okAt k (c.toNat : Int) = false) := by show _ = _; simp only [okAt, smallB, digitB]; simp; omega
          go_wp2_with fail
          go_ret
          exact ⟨ret_bool (nameB_false hlt (by rw [HC.out]; exact HOK.out)).symm, rfl⟩
      · have HF := Lib.hid (nameB_true (s := s) (by omega) (by omega) (fun i hi => hok.out i hi (by omega)))
        go_wp2_with fail
        go_ret
        exact ⟨ret_bool HF.out.symm, rfl⟩
  · have H0 : Hid (nameB s = false) := nameB_false h0 (by simp only [okAt, smallB]; simp; omega)
    by_cases h97 : (s[0].toNat : Int) < 97
    · have t1 : decide ((s[0].toNat : Int) < 97) = true := by simp; omega
      go_enter Tryd.func66, Tryd.ntmps66
      go_wp2_with fail
      go_ret
      exact ⟨ret_bool H0.out.symm, rfl⟩
    · have t1 : decide ((s[0].toNat : Int) < 97) = false := by simp; omega
      have t2 : decide (122 < (s[0].toNat : Int)) = true := by simp; omega
      go_enter Tryd.func66, Tryd.ntmps66
      go_wp2_with fail
      go_ret
      exact ⟨ret_bool H0.out.symm, rfl⟩

end Go.Proofs.YtaomlkglodeaoaaDoor
