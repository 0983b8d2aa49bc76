/-
  Same, ApartBase, Apart, NineEx
-/
import Derived.Test.YtbkligcfllakeaaKE01
import Derived.Test.YtbkligcfllakeaaKE07
import Derived.Test.YtbkligcfllakeaaKE15
import Derived.WalkSpells
import Derived.WalkLawsBesides
import Derived.StillTailTactics
namespace Go.Proofs.Ytbkligcfllakeaa
open Go.RowKit
mutual
def sameV : V → V → Bool
 | .mk k n s l, .mk k' n' s' l' => (k == k') && (n == n') && (s.toList == s'.toList) && sameL l l'
def sameL : List V → List V → Bool
 | [], [] => true
 | [], _ :: _ => false
 | _ :: _, [] => false
 | x :: l, y :: m => sameV x y && sameL l m
end
def SameAt (x y : V) : Prop := ∀ (B : Nat) (w : World) (c0 c1 c2 c3 d0 d1 d2 d3 : Value), B ≤ w.heap.size → RepV B w x c0 c1 c2 c3 → RepV B w y d0 d1 d2 d3 →
 Calls Try.prog 12 #[.agg #[c0, c1, c2, c3], .agg #[d0, d1, d2, d3]] w fun e w' => e = .returned (.bool (sameV x y)) ∧ Below w.heap.size w w'
def ValuesAt (l m : List V) : Prop := ∀ (B : Nat) (w : World) (a b : Value), B ≤ w.heap.size → RepL B w l a → RepL B w m b →
 Calls Try.prog 30 #[a, b] w fun e w' => e = .returned (.bool (sameL l m)) ∧ Below w.heap.size w w'
theorem sameL_len : ∀ {l m : List V}, l.length ≠ m.length → sameL l m = false
 | [], [], h => absurd rfl h
 | [], _ :: _, _ => by simp [sameL]
 | _ :: _, [], _ => by simp [sameL]
 | x :: l, y :: m, h => by simp [sameL, sameL_len (l := l) (m := m) (by simpa using h)]
theorem sameL_at {l m : List V} {k : Nat} (hl : k < l.length) (hm : k < m.length) : sameL (l.drop k) (m.drop k) = (sameV l[k] m[k] && sameL (l.drop (k + 1)) (m.drop (k + 1))) := by
 rw [List.drop_eq_getElem_cons hl, List.drop_eq_getElem_cons hm, sameL]
theorem retB {a b : Bool} (h : a = b) : Ending.returned (.bool a) = .returned (.bool b) := by rw [h]
set_option maxRecDepth 100000 in
set_option maxHeartbeats 1000000 in
theorem values_of (l m : List V) (hC : ∀ x, x ∈ l → ∀ y, SameAt x y) : ValuesAt l m := by
 intro B w a b hB ha hb;obtain ⟨aa, ab, ao, ac, rfl, hal, hac, haa, hab, hax⟩ := ha;obtain ⟨ba, bb, bo, bc, rfl, hbl, hbc, hba, hbb, hbx⟩ := hb;have HC := Lib.hid hC; clear hC
 have HAX := Lib.hid hax; clear hax
 have HBX := Lib.hid hbx; clear hbx
 have HAA := Lib.hid haa; clear haa
 have HBA := Lib.hid hba; clear hba
 by_cases hne : l.length = m.length
 ·have hn' : ((l.length : Int) != (m.length : Int)) = false := by simp; omega
  have HNE := Lib.hid hne;have hle1 : l.length ≤ m.length := by omega
  have hle2 : m.length ≤ l.length := by omega
  clear hne;go_enter Try.func30, Try.ntmps30
  go_wp2_with fail
  go_loopw [5] (fun i wr => ∃ k : Nat, k ≤ l.length ∧ i = .int .i64 k ∧ Hid (sameL l m = sameL (l.drop k) (m.drop k)) ∧ Below w.heap.size w wr) (fun i _ => l.length - (intOf i).toNat)
  case atStart => exact ⟨0, Nat.zero_le _, rfl, rfl, Below.refl _ _⟩
  case round =>
   obtain ⟨k, hk1, rfl, hrec, hbel⟩ := hrel
   by_cases hl : k < l.length
   ·have hm : k < m.length := by omega
    obtain ⟨x0, x1, x2, x3, g0, g1, g2, g3, gr⟩ := HAX.out k hl;obtain ⟨y0, y1, y2, y3, e0, e1, e2, e3, er⟩ := HBX.out k hm;have hab' : ab < B := hab (by omega);have hbb' : bb < B := hbb (by omega);obtain rfl := HAA.out (by omega);obtain rfl := HBA.out (by omega);rw [← hbel.cell (by simp; omega)] at g0 g1 g2 g3 e0 e1 e2 e3;go_wp2_with fail
    go_still_tail 8, (by kernel_rfl)
    change wpList _ _ _ _ _ wr.drew;have hbel2 : Below w.heap.size w wr.drew := hbel.drew;clear g0 g1 g2 g3 e0 e1 e2 e3 hbel;generalize wr.drew = w2 at *;have hs := hbel2.size;go_wp2_with fail
    refine (HC.out _ (List.getElem_mem hl) _ B w2 _ _ _ _ _ _ _ _ (by omega) (RepV.below (fun j hj => hbel2.block j (by omega)) _ gr) (RepV.below (fun j hj => hbel2.block j (by omega)) _ er)).mono ?_;rintro e w3 ⟨rfl, hbel3⟩;have hbel4 : Below w.heap.size w w3 := hbel2.trans (hbel3.mono hs);have HN := Lib.hid (sameL_at hl hm)
    cases hc : sameV l[k] m[k] with
    | true =>
     have HCZ := Lib.hid hc; clear hc
     go_wp2_with fail
     go_roundw
     case rel => exact ⟨k + 1, by omega, by go_num, by show _ = _; rw [hrec.out, HN.out, HCZ.out, Bool.true_and], hbel4⟩
     case measure => simp [intOf]; omega
    | false =>
     have HCZ := Lib.hid hc; clear hc
     go_wp2_with fail
     go_ret
     exact ⟨retB (by rw [hrec.out, HN.out, HCZ.out, Bool.false_and]), hbel4⟩
   ·have HF : Hid (sameL l m = true) := by
     show _ = _
     rw [hrec.out, List.drop_of_length_le (by omega), List.drop_of_length_le (by have := HNE.out; omega), sameL]
    go_wp2_with fail
    go_ret
    exact ⟨retB HF.out.symm, hbel⟩
 ·have hn' : ((l.length : Int) != (m.length : Int)) = true := by simp; omega
  have HF := Lib.hid (sameL_len hne);clear hne;go_enter Try.func30, Try.ntmps30
  go_wp2_with fail
  go_ret
  exact ⟨retB HF.out.symm, Below.refl _ _⟩
set_option maxRecDepth 100000 in
set_option maxHeartbeats 1000000 in
theorem same_any (x y : V) : SameAt x y := by
 match x, y with
 | .mk k n s l, .mk k' n' s' l' =>
 have hC : ∀ z, z ∈ l → ∀ y, SameAt z y := fun z _hz y => same_any z y
 have HC := Lib.hid hC; clear hC
 intro B w c0 c1 c2 c3 d0 d1 d2 d3 hB hx hy;rw [repV_mk] at hx hy;obtain ⟨rfl, rfl, rfl, hk, hn, hs, hl⟩ := hx;obtain ⟨rfl, rfl, rfl, hk', hn', hs', hl'⟩ := hy;have HL := Lib.hid hl;have HL' := Lib.hid hl';obtain ⟨aa, ab, ao, ac, rfl, -⟩ := hl;obtain ⟨ba, bb, bo, bc, rfl, -⟩ := hl'
 have hbb : Below w.heap.size w ((w.alloc (.cells #[.int .i64 k, .int .i64 n, .string s, .slice aa l.length ac] 27)).alloc (.cells #[.int .i64 k', .int .i64 n', .string s', .slice ba l'.length bc] 27)) :=
  ((Below.refl _ w).alloc (Nat.le_refl _) _).alloc (by simp) _
 by_cases e : k = k'
 ·subst e
  by_cases e2 : n = n'
  ·subst e2
   cases e3 : (s.toList == s'.toList) with
   | true =>
    have e3' : s.toList = s'.toList := by simpa using e3
    have HE := Lib.hid e3;have hz : (!(s.toList == s'.toList)) = false := by simp [e3']
    clear e3';go_enter Try.func12, Try.ntmps12
    go_wp2_with fail
    refine (values_of l l' HC.out B _ _ _ (by simp; omega) (RepL.below (fun j hj => hbb.block j (by omega)) HL.out) (RepL.below (fun j hj => hbb.block j (by omega)) HL'.out)).mono ?_;rintro e w' ⟨rfl, hb⟩;have hb4 : Below w.heap.size w w' := hbb.trans (hb.mono (by simp; omega));go_wp2_with fail
    go_ret
    exact ⟨retB (by simp [sameV, HE.out]), hb4⟩
   | false =>
    have HE := Lib.hid e3;have hz : ¬ (s.toList = s'.toList) := by simpa using e3
    go_enter Try.func12, Try.ntmps12
    go_wp2_with fail
    go_ret
    exact ⟨retB (by simp [sameV, HE.out]), hbb⟩
  ·have f2 : (n == n') = false := by simp [e2]
   have HE := Lib.hid f2;clear e2;go_enter Try.func12, Try.ntmps12
   go_wp2_with fail
   go_ret
   exact ⟨retB (by simp [sameV, HE.out]), hbb⟩
 ·have f1 : (k == k') = false := by simp [e]
  have HE := Lib.hid f1;clear e;go_enter Try.func12, Try.ntmps12
  go_wp2_with fail
  go_ret
  exact ⟨retB (by simp [sameV, HE.out]), hbb⟩
 termination_by SizeOf.sizeOf x
 decreasing_by
  have := List.sizeOf_lt_of_mem _hz;simp only [V.mk.sizeOf_spec]
  omega
theorem toList_inj {s s' : ByteArray} (h : s.toList = s'.toList) : s = s' := by
 rw [Lib.toList_data, Lib.toList_data] at h;exact ByteArray.ext (Array.toList_inj.1 h)
mutual
theorem sameV_iff (x y : V) : sameV x y = true ↔ x = y := by
 match x, y with
 | .mk k n s l, .mk k' n' s' l' =>
  rw [sameV, V.mk.injEq];simp only [Bool.and_eq_true, beq_iff_eq, sameL_iff l l']
  constructor
  ·rintro ⟨⟨⟨h1, h2⟩, h3⟩, h4⟩; exact ⟨h1, h2, toList_inj h3, h4⟩
  ·rintro ⟨h1, h2, h3, h4⟩; exact ⟨⟨⟨h1, h2⟩, by rw [h3]⟩, h4⟩
 termination_by SizeOf.sizeOf x
 decreasing_by simp only [V.mk.sizeOf_spec]; omega
theorem sameL_iff (l m : List V) : sameL l m = true ↔ l = m := by
 match l, m with
 | [], [] => simp [sameL]
 | [], _ :: _ => simp [sameL]
 | _ :: _, [] => simp [sameL]
 | x :: l, y :: m =>
  rw [sameL, Bool.and_eq_true, sameV_iff x y, sameL_iff l m, List.cons.injEq]
 termination_by SizeOf.sizeOf l
end
end Go.Proofs.Ytbkligcfllakeaa
namespace Go.Proofs.Ytbkligcfllakeaa
open Go.RowKit
theorem bytes_ext {s t : ByteArray} (h : s.toList = t.toList) : s = t := by
 rw [Lib.toList_data, Lib.toList_data] at h
 cases s with
 | mk a => cases t with
  | mk b => simp at h; rw [h]
theorem none_of {s : ByteArray} (h : s.toList.isEmpty = true) : s = ⟨#[]⟩ := by
 refine bytes_ext ?_;have h0 : s.toList = [] := by simpa using h
 rw [h0, Lib.toList_data]
end Go.Proofs.Ytbkligcfllakeaa
namespace Go.Proofs.Ytbkligcfllakeaa
open Go.RowKit
theorem compareInt_zero {a b : Int} (h : Lib.compareInt a b = 0) : a = b := by
 unfold Lib.compareInt at h
 split at h
 ·cases h
 ·split at h
  ·cases h
  ·omega
theorem cmpS_zero {s t : ByteArray} (h : cmpS s t = 0) : s = t := by
 unfold cmpS at h
 split at h
 ·cases h
 ·split at h
  ·rename_i e; exact bytes_ext (by simpa using e)
  ·cases h
theorem rightL_cons {d : Nat} {x : V} {l : List V} (h : rightL d (x :: l) = true) : ∃ e, d = e + 1 ∧ rightV e x = true ∧ rightL d l = true := by
 cases d with
 | zero => simp [rightL] at h
 | succ e =>
  simp only [rightL, List.length_cons, List.all_cons, Bool.and_eq_true, decide_eq_true_eq] at h ⊢
  exact ⟨e, rfl, h.2.1, by omega, h.2.2⟩
mutual
theorem cmp_zero : ∀ (x y : V) (d : Nat), rightV d x = true → rightV d y = true → cmpV x y = 0 → x = y
 | .mk k n s l, .mk k' n' s' l', d, hx, hy, h => by
  rw [cmpV] at h
  by_cases e : k = k'
  ·subst e
   rw [if_neg (by simp)] at h;rw [rightV_mk] at hx hy;rcases baseB_cases hx with ⟨rfl, h1, rfl, _, _⟩ | ⟨rfl, rfl, rfl, _⟩ | ⟨rfl, rfl, rfl, _⟩ | ⟨rfl, rfl, h1, h2⟩
   ·rcases baseB_cases hy with ⟨_, h1', rfl, _, _⟩ | ⟨e, _⟩ | ⟨e, _⟩ | ⟨e, _⟩
    ·rw [if_pos rfl] at h
     rw [compareInt_zero h, none_of h1, none_of h1']
    all_goals exact absurd e (by decide)
   ·rcases baseB_cases hy with ⟨e, _⟩ | ⟨_, rfl, rfl, _⟩ | ⟨e, _⟩ | ⟨e, _⟩
    case inr.inl =>
     rw [if_neg (by decide), if_pos (Or.inl rfl)] at h;rw [cmpS_zero h]
    all_goals exact absurd e (by decide)
   ·rcases baseB_cases hy with ⟨e, _⟩ | ⟨e, _⟩ | ⟨_, rfl, rfl, _⟩ | ⟨e, _⟩
    case inr.inr.inl =>
     rw [if_neg (by decide), if_pos (Or.inr rfl)] at h;rw [cmpS_zero h]
    all_goals exact absurd e (by decide)
   ·rcases baseB_cases hy with ⟨e, _⟩ | ⟨e, _⟩ | ⟨e, _⟩ | ⟨_, rfl, h1', h2'⟩
    case inr.inr.inr =>
     rw [if_neg (by decide), if_neg (by decide), if_pos rfl] at h;rw [none_of h1, none_of h1', cmpL_zero l l' d h2 h2' h]
    all_goals exact absurd e (by decide)
  ·rw [if_pos e] at h
   exact absurd (compareInt_zero h) e
theorem cmpL_zero : ∀ (l m : List V) (d : Nat), rightL d l = true → rightL d m = true → cmpL l m = 0 → l = m
 | [], [], _, _, _, _ => rfl
 | [], _ :: _, _, _, _, h => by simp [cmpL] at h
 | _ :: _, [], _, _, _, h => by simp [cmpL] at h
 | x :: l, y :: m, d, hl, hm, h => by
  obtain ⟨e, rfl, hx, hl'⟩ := rightL_cons hl;obtain ⟨e', he, hy, hm'⟩ := rightL_cons hm;obtain rfl : e = e' := by omega
  rw [cmpL] at h
  by_cases hc : cmpV x y = 0
  ·rw [if_neg (by simpa using hc)] at h
   rw [cmp_zero x y e hx hy hc, cmpL_zero l m (e + 1) hl' hm' h]
  ·rw [if_pos hc] at h
   exact absurd h hc
end
end Go.Proofs.Ytbkligcfllakeaa
namespace Go.Proofs.Ytbkligcfllakeaa
def tX : Tm := .mk 1 ⟨#[88]⟩ zeroV []
def tOne : Tm := .mk 2 ⟨#[]⟩ (numV 1) []
def tSum : Tm := .mk 4 ⟨#[43]⟩ zeroV [tX, tOne]
theorem cmp_same (x : V) : cmpV x x = 0 := by have := (ord_value x x x).sym; omega
theorem op_sum : opZ ⟨#[43]⟩ (numV 2) (numV 1) = some 3 := by
 unfold opZ;have h : ∀ n : Int, -2147483647 ≤ n → n ≤ 2147483647 → rightV 4 (numV n) = true := fun n h1 h2 => by rw [right_num]; simp [h1, h2]
 have hn : ∀ n : Int, -2147483647 ≤ n → n ≤ 2147483647 → numB (numV n) = true := fun n h1 h2 => by unfold numB; rw [h n h1 h2]; rfl
 rw [if_pos ⟨hn 2 (by omega) (by omega), hn 1 (by omega) (by omega)⟩]
 have hr : reckonZ ⟨#[43]⟩ (numV 2).num (numV 1).num = some 3 := by
  show reckonZ ⟨#[43]⟩ 2 1 = some 3
  simp [reckonZ, Lib.toList_data]
 rw [hr]
 show (if rightV 4 (numV 3) = true then some 3 else none) = some 3
 rw [if_pos (h 3 (by omega) (by omega))]
theorem look_x (x : V) : lookZ ⟨#[88]⟩ [(⟨#[88]⟩, x)] = some x := by rw [lookZ, if_pos (beq_self_eq_true _)]
theorem ev_x (x : V) : evalM [(⟨#[88]⟩, x)] tX = some x := by rw [tX, evalM_mk, if_pos rfl, look_x]
theorem ev_sum : evalM [(⟨#[88]⟩, numV 2)] tSum = some (numV 3) := by
 rw [tSum, evalM_mk, if_neg (by decide), if_neg (by decide), if_neg (by decide), if_pos rfl, evalL_cons, ev_x, evalL_cons];rw [show evalM [(⟨#[88]⟩, numV 2)] tOne = some (numV 1) by rw [tOne, evalM_mk, if_neg (by decide), if_pos rfl], evalL_nil]
 show (opZ ⟨#[43]⟩ (numV 2) (numV 1)).map numV = _
 rw [op_sum]; rfl
theorem with_ex (a b c : V) : withZ [(tX, a), (tX, b), (tSum, c)] [] = [(⟨#[88]⟩, a)] := by
 rw [withZ_cons, if_pos ⟨rfl, rfl⟩, withZ_cons, if_neg (fun h => by have := h.2; rw [show tX.name = ⟨#[88]⟩ from rfl, List.nil_append, look_x] at this; cases this), withZ_cons, if_neg (fun h => by have := h.1; cases this)];rfl
theorem cmp_num {a b : Int} (h : a ≠ b) : cmpV (numV a) (numV b) ≠ 0 := by
 intro e;rw [numV, numV, cmpV, if_neg (fun h => h rfl), if_pos rfl] at e;exact h (compareInt_zero e)
theorem fit_ex : fitZ [(⟨#[88]⟩, numV 2)] [(tX, numV 2), (tX, numV 2), (tSum, numV 3)] = true := by
 refine (fitZ_iff _ _).2 fun p hp => ?_
 simp only [List.mem_cons, List.not_mem_nil, or_false] at hp
 rcases hp with rfl | rfl | rfl
 ·exact ⟨_, ev_x _, cmp_same _⟩
 ·exact ⟨_, ev_x _, cmp_same _⟩
 ·exact ⟨_, ev_sum, cmp_same _⟩
theorem match_ex : matchZ [tX, tX, tSum] [numV 2, numV 2, numV 3] [] = some [(⟨#[88]⟩, numV 2)] := by
 unfold matchZ;rw [show ([tX, tX, tSum] : List Tm).zip [numV 2, numV 2, numV 3] = [(tX, numV 2), (tX, numV 2), (tSum, numV 3)] from rfl, with_ex, if_pos ⟨rfl, fit_ex⟩]
theorem fit_ex2 : ¬ fitZ [(⟨#[88]⟩, numV 2)] [(tX, numV 2), (tX, numV 3), (tSum, numV 3)] = true := by
 intro h;obtain ⟨y, h1, h2⟩ := (fitZ_iff _ _).1 h (tX, numV 3) (List.mem_cons_of_mem _ List.mem_cons_self);rw [ev_x] at h1
 cases h1
 exact cmp_num (by decide) h2
theorem match_ex2 : matchZ [tX, tX, tSum] [numV 2, numV 3, numV 3] [] = none := by
 unfold matchZ;rw [show ([tX, tX, tSum] : List Tm).zip [numV 2, numV 3, numV 3] = [(tX, numV 2), (tX, numV 3), (tSum, numV 3)] from rfl, with_ex, if_neg (fun h => fit_ex2 h.2)]
end Go.Proofs.Ytbkligcfllakeaa
