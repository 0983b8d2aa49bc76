/-
  The document's own Call of two arguments: member.
-/
import Derived.Test.YtaomlkglodeaoaaDoorW18
import Derived.Test.YtaomlkglodeaoaaDoorW04
import Derived.Test.YtaomlkglodeaoaaDoorW16
import Derived.Test.YtaomlkglodeaoaaDoorW17
import Derived.Test.YtaomlkglodeaoaaDoorW14
import Derived.Test.YtaomlkglodeaoaaDoorW19
import Derived.Test.YtaomlkglodeaoaaDoorW20
import Derived.Test.YtaomlkglodeaoaaDoorW22
import Derived.Test.YtaomlkglodeaoaaDoorW23
import Derived.Deep.RegionLaw
namespace Go.Proofs.YtaomlkglodeaoaaDoor
open Go.RowKit

set_option maxRecDepth 100000 in
set_option maxHeartbeats 1000000 in
theorem ref_member (s : ByteArray) (l : List V) (y : V) (B : Nat → Prop) (w : World) (a : Value) (hB : Under B w.heap.size) (ha : RepLG B w [listV l, y] a) (hs : fnOf s = 3) (h : All3 l) (hl : l.length ≤ 16) (hy : rightV 4 y = true) :
    Calls Tryd.prog 6 #[.string s, a] w (RefPost B (callV (fnOf s) [listV l, y]) w) := by
  have e := fn_text (k := 3) (by decide) hs
  have h0 : (s.toList == [102, 95, 99, 111, 110, 115]) = false := by rw [e]; decide
  have h1 : (s.toList == [102, 95, 97, 112, 112, 101, 110, 100]) = false := by rw [e]; decide
  have h2 : (s.toList == [102, 95, 99, 111, 110, 99, 97, 116]) = false := by rw [e]; decide
  have h3 : (s.toList == [102, 95, 109, 101, 109, 98, 101, 114]) = true := by rw [e]; decide
  have h4 : (s.toList == [102, 95, 115, 105, 122, 101]) = false := by rw [e]; decide
  have h5 : (s.toList == [102, 95, 102, 105, 114, 115, 116]) = false := by rw [e]; decide
  have h6 : (s.toList == [102, 95, 108, 97, 115, 116]) = false := by rw [e]; decide
  have h7 : (s.toList == [102, 95, 114, 101, 115, 116]) = false := by rw [e]; decide
  have h8 : (s.toList == [102, 95, 114, 101, 118, 101, 114, 115, 101]) = false := by rw [e]; decide
  have HAR : Hid (fnArity (fnOf s) = 2) := by show _ = _; rw [hs]; rfl
  clear e
  have HRHX : Hid (rightV 4 (listV l) = true) := right_list h hl
  have HRHY := Lib.hid hy
  have HC : Hid (callV (fnOf s) [listV l, y] = some (numV (memZ l y))) := by show _ = _; rw [hs]; exact call_member hy h hl
  clear hs
  obtain ⟨b, o, cap, fa, fc, ga, gc, rfl, hcap, hx, hy⟩ := arg_two ha
  have HX := Lib.hid hx; have HY := Lib.hid hy
  have HBH := Lib.hid (show RepLG B w [y] (.slice (some ⟨b, o + 4, none⟩) 1 (cap - 1)) from RepLG.behind ha)
  have HFR := Lib.hid (show RepLG B w [listV l] (.slice (some ⟨b, o, none⟩) 1 cap) from RepLG.front ha 1 (by simp))
  clear ha hx
  clear hy
  have HCAP := Lib.hid hcap
  clear hcap
  go_enter Tryd.func6, Tryd.ntmps6
  go_wp2_with fail
  have k1 := boxed_new w (.int .i64 0) (.int .i64 0) (.string ⟨#[]⟩) (.slice none 0 0)
  have b1 := stands_alloc w (.cells #[.int .i64 0, .int .i64 0, .string ⟨#[]⟩, .slice none 0 0] 24)
  generalize w.alloc (.cells #[.int .i64 0, .int .i64 0, .string ⟨#[]⟩, .slice none 0 0] 24) = w1 at *
  have K1 := Lib.hid k1; have B1 := Lib.hid b1
  clear k1 b1
  refine (refArity_any s _).mono ?_
  rintro e w' ⟨rfl, rfl⟩
  rw [HAR.out]
  obtain ⟨q0, q1, q2, q3⟩ := (HX.out.on hB B1.out).cellsL
  go_wp2_with fail
  refine wp_loop_rounds 4 ?_
  rw [rounds_succ]
  go_wp2_with fail
  refine (refRight_at (listV l) B _ _ _ _ _ (hB.up B1.out.size) (HX.out.on hB B1.out).repL).mono ?_
  rw [HRHX.out]
  rintro e w2 ⟨rfl, b⟩
  have B2 := Lib.hid (Below.step B1.out b); have K2 := Lib.hid (K1.out.on b)
  clear b q0 q1 q2 q3 B1 K1
  obtain ⟨q0, q1, q2, q3⟩ := (HY.out.on hB B2.out).cells
  go_wp2_with fail
  rw [rounds_succ]
  go_wp2_with fail
  refine (refRight_at y B _ _ _ _ _ (hB.up B2.out.size) (HY.out.on hB B2.out).rep).mono ?_
  rw [HRHY.out]
  rintro e w3 ⟨rfl, b⟩
  have B3 := Lib.hid (Below.step B2.out b); have K3 := Lib.hid (K2.out.on b)
  clear b q0 q1 q2 q3 B2 K2
  obtain ⟨q0, q1, q2, q3⟩ := (HX.out.on hB B3.out).cellsL
  have b := stands_alloc w3 (.cells #[.int .i64 4, .int .i64 0, .string ⟨#[]⟩, .slice fa l.length fc] 24)
  have B4 := Lib.hid (Below.step B3.out b); have K4 := Lib.hid (K3.out.on b); have L4 := Lib.hid (boxed_new w3 (.int .i64 4) (.int .i64 0) (.string ⟨#[]⟩) (.slice fa l.length fc))
  clear b
  have hk2 := K3.out.lt
  go_wp2_with fail
  rw [rounds_succ]
  go_wp2_with fail
  clear q0 q1 q2 q3
  generalize (w3.alloc (.cells #[.int .i64 4, .int .i64 0, .string ⟨#[]⟩, .slice fa l.length fc] 24)) = w4 at *
  generalize w3.heap.size = bl at *
  have HZ : Hid (memZ l y = memZ (l.drop 0) y) := rfl
  have HM0 := Lib.hid (memZ_range l y)
  have HLL := Lib.hid hl
  clear h hl
  go_loopw [10] (fun i wr => ∃ k : Nat, k ≤ l.length ∧ i = .int .i64 k ∧ Hid (memZ l y = memZ (l.drop k) y) ∧ Below w4.heap.size w4 wr) (fun i _ => l.length - (intOf i).toNat)
  case atStart => exact ⟨0, Nat.zero_le _, rfl, HZ, Below.refl _ _⟩
  case round =>
    obtain ⟨k, hk1, rfl, hrec, hbel⟩ := hrel
    have BR := Lib.hid (Below.step B4.out hbel)
    have KR := Lib.hid (K4.out.on hbel)
    have LR := Lib.hid (L4.out.on hbel)
    have HBEL := Lib.hid hbel
    clear hbel
    have hl16 := HLL.out
    by_cases hl : k < l.length
    · obtain ⟨-, -, lb, lo, la, lc, hfa, hSl, q0, q1, q2, q3, qq⟩ := RepLG.at (HX.out.on hB BR.out).lst k hl
      subst hfa
      have HQ := Lib.hid qq
      have HN := Lib.hid (fun h => memZ_hit (l := l) (y := y) hl h)
      have HN2 := Lib.hid (fun h => memZ_miss (l := l) (y := y) hl h)
      generalize l[k] = z at *
      clear qq
      have l3 := LR.out.cells.2.2.2
      obtain ⟨r0, r1, r2, r3⟩ := (HY.out.on hB BR.out).cells
      have HQV : Hid (RepV wr.heap.size wr z (.int .i64 z.kind) (.int .i64 z.num) (.string z.text) (.slice la z.list.length lc)) := Lib.hid (RepG.on (fun j hj => (hB.up BR.out.size).lt j hj) (fun _ _ => rfl) z HQ.out)
      have HYV : Hid (RepV wr.heap.size wr y (.int .i64 y.kind) (.int .i64 y.num) (.string y.text) (.slice ga y.list.length gc)) := Lib.hid (RepG.on (fun j hj => (hB.up BR.out.size).lt j hj) (fun _ _ => rfl) y (HY.out.on hB BR.out).rep)
      have HSS : Hid (∀ w' : World, Below wr.heap.size wr w' → (w'.cell? ⟨bl, 3, none⟩ = some (.slice (some ⟨lb, lo, none⟩) l.length fc) ∧ w'.cell? ⟨lb, lo + k * 4, none⟩ = some (.int .i64 z.kind) ∧ w'.cell? ⟨lb, lo + k * 4 + 1, none⟩ = some (.int .i64 z.num) ∧ w'.cell? ⟨lb, lo + k * 4 + 2, none⟩ = some (.string z.text) ∧ w'.cell? ⟨lb, lo + k * 4 + 3, none⟩ = some (.slice la z.list.length lc) ∧ w'.cell? ⟨b, o + 4, none⟩ = some (.int .i64 y.kind) ∧ w'.cell? ⟨b, o + 4 + 1, none⟩ = some (.int .i64 y.num) ∧ w'.cell? ⟨b, o + 4 + 2, none⟩ = some (.string y.text) ∧ w'.cell? ⟨b, o + 4 + 3, none⟩ = some (.slice ga y.list.length gc))) := Lib.hid (fun w' hb => ⟨(LR.out.on hb).cells.2.2.2, (hb.cell (p := ⟨lb, lo + k * 4, none⟩) (cell_lt q0)).trans q0, (hb.cell (p := ⟨lb, lo + k * 4 + 1, none⟩) (cell_lt q1)).trans q1, (hb.cell (p := ⟨lb, lo + k * 4 + 2, none⟩) (cell_lt q2)).trans q2, (hb.cell (p := ⟨lb, lo + k * 4 + 3, none⟩) (cell_lt q3)).trans q3, (hb.cell (p := ⟨b, o + 4, none⟩) (cell_lt r0)).trans r0, (hb.cell (p := ⟨b, o + 4 + 1, none⟩) (cell_lt r1)).trans r1, (hb.cell (p := ⟨b, o + 4 + 2, none⟩) (cell_lt r2)).trans r2, (hb.cell (p := ⟨b, o + 4 + 3, none⟩) (cell_lt r3)).trans r3⟩)
      have HK := Lib.hid (Below.drew (Below.refl wr.heap.size wr))
      go_wp2_with fail
      go_region_held3 (fun w' => w'.cell? ⟨bl, 3, none⟩ = some (.slice (some ⟨lb, lo, none⟩) l.length fc) ∧ w'.cell? ⟨lb, lo + k * 4, none⟩ = some (.int .i64 z.kind) ∧ w'.cell? ⟨lb, lo + k * 4 + 1, none⟩ = some (.int .i64 z.num) ∧ w'.cell? ⟨lb, lo + k * 4 + 2, none⟩ = some (.string z.text) ∧ w'.cell? ⟨lb, lo + k * 4 + 3, none⟩ = some (.slice la z.list.length lc) ∧ w'.cell? ⟨b, o + 4, none⟩ = some (.int .i64 y.kind) ∧ w'.cell? ⟨b, o + 4 + 1, none⟩ = some (.int .i64 y.num) ∧ w'.cell? ⟨b, o + 4 + 2, none⟩ = some (.string y.text) ∧ w'.cell? ⟨b, o + 4 + 3, none⟩ = some (.slice ga y.list.length gc))
        (first | exact HSS.out _ HK.out)
        (first | (go_at_call 27; refine (refCmp_any z y wr.heap.size _ _ _ _ _ _ _ _ _ HK.out.size (RepV.on HK.out (Nat.le_refl _) HQV.out) (RepV.on HK.out (Nat.le_refl _) HYV.out)).mono ?_; rintro e w' ⟨rfl, hb⟩; replace HK := Lib.hid (Below.step HK.out hb); clear hb))
      obtain ⟨w6, hw6⟩ : ∃ t : World, t = w' := ⟨_, rfl⟩
      subst hw6
      have B6 := Lib.hid (Below.step BR.out HK.out)
      have K6 := Lib.hid (KR.out.on HK.out)
      have HKE := Lib.hid HK.out
      clear HSS HQV HYV l3 r0 r1 r2 r3 q0 q1 q2 q3 HK
      cases hc : (cmpV z y == 0) with
      | true =>
        have hc0 : cmpV z y = 0 := by simpa using hc
        have HF : Hid (memZ l y = 1) := by show _ = _; rw [hrec.out, HN.out hc0]
        clear hc hc0
        go_wp2_with fail
        refine (refNumber_any _ _).mono ?_
        rintro e w7 ⟨rfl, hb7⟩
        have B7 := Lib.hid (Below.step B6.out hb7)
        have X7 := K6.out.on hb7
        obtain ⟨t0, t1, t2, t3⟩ := X7.cells
        have z0 := frozen_of_row w7 _ 0 _ _ X7
        have z1 := frozen_of_row w7 _ 1 _ _ X7
        have z2 := frozen_of_row w7 _ 2 _ _ X7
        have z3 := frozen_of_row w7 _ 3 _ _ X7
        clear X7
        go_wp2_with fail
        refine bodyPost_ret (v := .tuple #[.agg #[.int .i64 1, .int .i64 1, .string ⟨#[]⟩, .slice none 0 0], .bool true]) (by simp [results, Tryd.results6, go_sem, t0, t1, t2, t3]) rfl ?_
        rw [HC.out, HF.out]
        exact ref_some hB B7.out (rep_num ⟨by omega, by omega⟩) _ _ _ _
      | false =>
        have HF : Hid (memZ l y = memZ (l.drop (k + 1)) y) := by show _ = _; rw [hrec.out, HN2.out hc]
        go_wp2_with fail
        go_roundw
        case rel => exact ⟨k + 1, by omega, by go_num, HF, Below.step HBEL.out HKE.out⟩
        case measure => simp [intOf]; omega
    · have HF : Hid (memZ l y = 0) := by show _ = _; rw [hrec.out, List.drop_of_length_le (by omega), memZ_nil]
      go_wp2_with fail
      refine (refNumber_any _ _).mono ?_
      rintro e w7 ⟨rfl, hb7⟩
      have B7 := Lib.hid (Below.step BR.out hb7)
      have X7 := KR.out.on hb7
      obtain ⟨t0, t1, t2, t3⟩ := X7.cells
      have z0 := frozen_of_row w7 _ 0 _ _ X7
      have z1 := frozen_of_row w7 _ 1 _ _ X7
      have z2 := frozen_of_row w7 _ 2 _ _ X7
      have z3 := frozen_of_row w7 _ 3 _ _ X7
      clear X7
      go_wp2_with fail
      refine bodyPost_ret (v := .tuple #[.agg #[.int .i64 1, .int .i64 0, .string ⟨#[]⟩, .slice none 0 0], .bool true]) (by simp [results, Tryd.results6, go_sem, t0, t1, t2, t3]) rfl ?_
      rw [HC.out, HF.out]
      exact ref_some hB B7.out (rep_num ⟨by omega, by omega⟩) _ _ _ _

end Go.Proofs.YtaomlkglodeaoaaDoor

/-
  The document's own Call: for any name and any arguments it answers what this program's Call does.
-/
namespace Go.Proofs.YtaomlkglodeaoaaDoor
open Go.RowKit

theorem arity_one {k : Nat} (h : fnArity k = 1) : k = 4 ∨ k = 5 ∨ k = 6 ∨ k = 7 ∨ k = 8 := by
  unfold fnArity at h
  split at h <;> simp_all
theorem arity_two {k : Nat} (h : fnArity k = 2) : k = 0 ∨ k = 1 ∨ k = 2 ∨ k = 3 := by
  unfold fnArity at h
  split at h <;> simp_all

theorem refCall_any (s : ByteArray) (args : List V) (B : Nat → Prop) (w : World) (a : Value) (hB : Under B w.heap.size) (ha : RepLG B w args a) :
    Calls Tryd.prog 6 #[.string s, a] w (RefPost B (callV (fnOf s) args) w) := by
  by_cases har : fnArity (fnOf s) = (args.length : Int)
  case neg => exact ref_arity s args B w a hB ha har
  match args, ha, har with
  | [], ha, har => exact absurd har (by rcases fnArity_range (fnOf s) with h | h | h <;> rw [h] <;> simp)
  | x :: y :: z :: r, ha, har => exact absurd har (by rcases fnArity_range (fnOf s) with h | h | h <;> rw [h] <;> simp <;> omega)
  | [x], ha, har =>
    replace har : fnArity (fnOf s) = 1 := har
    cases hx : rightV 4 x with
    | false => exact ref_wrong1 s x B w a hB ha har hx
    | true =>
      by_cases hk : x.kind = 4
      case neg => exact ref_kind1 s x B w a hB ha har hx hk
      obtain ⟨l, rfl, hl3, hl⟩ := right_is_list hx hk
      rcases arity_one har with hs | hs | hs | hs | hs
      · exact ref_size s l B w a hB ha hs hl3 hl
      · match l, ha, hl3, hl with
        | [], ha, _, _ => exact ref_first0 s B w a hB ha hs
        | z :: l, ha, hl3, hl => exact ref_first1 s z l B w a hB ha hs hl3 hl
      · match l, ha, hl3, hl with
        | [], ha, _, _ => exact ref_last0 s B w a hB ha hs
        | z :: l, ha, hl3, hl => exact ref_last1 s (z :: l) l.length B w a hB ha hs rfl hl3 hl
      · match l, ha, hl3, hl with
        | [], ha, _, _ => exact ref_rest0 s B w a hB ha hs
        | z :: l, ha, hl3, hl =>
          obtain ⟨b, o, cap, fa, fc, rfl, hcap, hx⟩ := arg_one ha
          obtain ⟨-, hc, lb, lo, -, -, rfl, -⟩ := RepLG.at hx.lst 0 (by simp)
          by_cases h1 : 1 < fc
          · exact ref_rest2 s z l b o cap lb lo fc B w hB hcap hx hs hl3 hl h1
          · have hf : fc = 1 := by simp at hc; omega
            have hn : l = [] := List.eq_nil_of_length_eq_zero (by simp at hc; omega)
            subst hf; subst hn
            exact ref_rest1 s z b o cap lb lo B w hB hcap hx hs hl3 hl
      · exact ref_reverse s l B w a hB ha hs hl3 hl
  | [x, y], ha, har =>
    replace har : fnArity (fnOf s) = 2 := har
    cases hx : rightV 4 x with
    | false => exact ref_wrong2 s x y B w a hB ha har hx
    | true =>
      cases hy : rightV 4 y with
      | false => exact ref_wrong3 s x y B w a hB ha har hx hy
      | true =>
        by_cases hs : fnOf s = 0
        · by_cases hk : y.kind = 4
          case neg => exact ref_cons_kind s x y B w a hB ha hs hx hy hk
          obtain ⟨l, rfl, hl3, hl⟩ := right_is_list hy hk
          cases hr : rightV 4 (listV ([x] ++ l)) with
          | true => exact ref_cons1 s x l B w a hB ha hs hl3 hl hx hr
          | false => exact ref_cons0 s x l B w a hB ha hs hl3 hl hx hr
        · by_cases hk : x.kind = 4
          case neg => exact ref_kind2 s x y B w a hB ha har hx hy hs hk
          obtain ⟨l, rfl, hl3, hl⟩ := right_is_list hx hk
          rcases arity_two har with h | h | h | h
          · exact absurd h hs
          · cases hr : rightV 4 (listV (l ++ [y])) with
            | true => exact ref_append1 s l y B w a hB ha h hl3 hl hy hr
            | false => exact ref_append0 s l y B w a hB ha h hl3 hl hy hr
          · by_cases hk' : y.kind = 4
            case neg => exact ref_concat_kind s l y B w a hB ha h hl3 hl hy hk'
            obtain ⟨m, rfl, hm3, hm⟩ := right_is_list hy hk'
            cases hr : rightV 4 (listV (l ++ m)) with
            | true => exact ref_concat1 s l m B w a hB ha h hl3 hl hm3 hm hr
            | false => exact ref_concat0 s l m B w a hB ha h hl3 hl hm3 hm hr
          · exact ref_member s l y B w a hB ha h hl3 hl hy

end Go.Proofs.YtaomlkglodeaoaaDoor

/-
  The document's own Op: of any op and values.
-/
namespace Go.Proofs.YtaomlkglodeaoaaDoor
open Go.RowKit

theorem opZ_right {s : ByteArray} {x y : V} (hx : rightV 4 x = false ∨ rightV 4 y = false ∨ ¬ x.kind = 1 ∨ ¬ y.kind = 1) : opZ s x y = none := by
  rw [opZ, if_neg]
  rintro ⟨h1, h2⟩
  rw [numB, Bool.and_eq_true, beq_iff_eq] at h1 h2
  rcases hx with h | h | h | h
  · rw [h] at h1; exact absurd h1.2 (by decide)
  · rw [h] at h2; exact absurd h2.2 (by decide)
  · exact h h1.1
  · exact h h2.1
theorem opZ_num {s : ByteArray} {x y : V} (h1 : rightV 4 x = true) (h2 : rightV 4 y = true) (h3 : x.kind = 1) (h4 : y.kind = 1) : numB x = true ∧ numB y = true ∧ opZ s x y = match reckonZ s x.num y.num with | none => none | some n => if rightV 4 (numV n) = true then some n else none := by
  have e1 : numB x = true := by rw [numB, h1, h3]; rfl
  have e2 : numB y = true := by rw [numB, h2, h4]; rfl
  exact ⟨e1, e2, by unfold opZ; rw [if_pos ⟨e1, e2⟩]; cases reckonZ s x.num y.num <;> rfl⟩
set_option maxRecDepth 100000 in
set_option maxHeartbeats 4000000 in
theorem refOp_any (s : ByteArray) (x y : V) (B : Nat) (w : World) (c0 c1 c2 c3 d0 d1 d2 d3 : Value) (hB : B ≤ w.heap.size) (hx : RepV B w x c0 c1 c2 c3) (hy : RepV B w y d0 d1 d2 d3) :
    Calls Tryd.prog 8 #[.string s, .agg #[c0, c1, c2, c3], .agg #[d0, d1, d2, d3]] w (OpPost (opZ s x y) w) := by
  have HX := Lib.hid hx; have HY := Lib.hid hy
  obtain ⟨fa, fc, rfl, rfl, rfl, rfl⟩ := hx.form
  obtain ⟨ga, gc, rfl, rfl, rfl, rfl⟩ := hy.form
  clear hx hy
  go_enter Tryd.func8, Tryd.ntmps8
  go_wp2_with fail
  have x1 := boxed_new w (.int .i64 x.kind) (.int .i64 x.num) (.string x.text) (.slice fa x.list.length fc)
  have b1 := (Below.refl _ w).alloc (Nat.le_refl _) (.cells #[.int .i64 x.kind, .int .i64 x.num, .string x.text, .slice fa x.list.length fc] 24)
  have s1 := World.size_alloc w (.cells #[.int .i64 x.kind, .int .i64 x.num, .string x.text, .slice fa x.list.length fc] 24)
  generalize w.alloc (.cells #[.int .i64 x.kind, .int .i64 x.num, .string x.text, .slice fa x.list.length fc] 24) = w1 at *
  have y2 := boxed_new w1 (.int .i64 y.kind) (.int .i64 y.num) (.string y.text) (.slice ga y.list.length gc)
  have b2 := (Below.refl _ w1).alloc (Nat.le_refl _) (.cells #[.int .i64 y.kind, .int .i64 y.num, .string y.text, .slice ga y.list.length gc] 24)
  have s2 := World.size_alloc w1 (.cells #[.int .i64 y.kind, .int .i64 y.num, .string y.text, .slice ga y.list.length gc] 24)
  generalize w1.alloc (.cells #[.int .i64 y.kind, .int .i64 y.num, .string y.text, .slice ga y.list.length gc] 24) = wy at *
  have k2 := boxed_new wy (.int .i64 0) (.int .i64 0) (.string ⟨#[]⟩) (.slice none 0 0)
  have b22 := (Below.refl _ wy).alloc (Nat.le_refl _) (.cells #[.int .i64 0, .int .i64 0, .string ⟨#[]⟩, .slice none 0 0] 24)
  generalize wy.alloc (.cells #[.int .i64 0, .int .i64 0, .string ⟨#[]⟩, .slice none 0 0] 24) = w2 at *
  rw [s2, s1] at k2
  rw [s1] at y2
  have B2 := Lib.hid (Below.step (Below.step b1 b2) b22); have X2 := Lib.hid ((x1.on b2).on b22); have Y2 := Lib.hid (y2.on b22); have K2 := Lib.hid k2
  clear x1 b1 b2 b22 s1 s2 y2 k2
  refine (refRight_any x B _ _ _ _ _ (Nat.le_trans hB B2.out.size) (RepV.on B2.out hB HX.out)).mono ?_
  rintro e w3 ⟨rfl, b3⟩
  have B3 := Lib.hid (Below.step B2.out b3); have X3 := Lib.hid (X2.out.on b3); have Y3 := Lib.hid (Y2.out.on b3); have K3 := Lib.hid (K2.out.on b3)
  obtain ⟨q0, q1, q2, q3⟩ := Y3.out.cells
  clear b3 B2 X2 Y2 K2
  go_wp2_with fail
  refine (refRight_any y B _ _ _ _ _ (Nat.le_trans hB B3.out.size) (RepV.on B3.out hB HY.out)).mono ?_
  rintro e w4 ⟨rfl, b4⟩
  have B4 := Lib.hid (Below.step B3.out b4); have X4 := Lib.hid (X3.out.on b4); have Y4 := Lib.hid (Y3.out.on b4); have K4 := Lib.hid (K3.out.on b4)
  clear b4 B3 X3 Y3 K3 q0 q1 q2 q3
  cases hp : rightV 4 x with
  | false =>
    have HE := Lib.hid (opZ_right (s := s) (x := x) (y := y) (.inl hp))
    clear hp
    obtain ⟨t0, t1, t2, t3⟩ := K4.out.cells
    have z0 := frozen_of_row _ _ 0 _ _ K4.out
    have z1 := frozen_of_row _ _ 1 _ _ K4.out
    have z2 := frozen_of_row _ _ 2 _ _ K4.out
    have z3 := frozen_of_row _ _ 3 _ _ K4.out
    go_wp2_with fail
    refine bodyPost_ret (v := .tuple #[zeroCells, .bool false]) (by simp [results, zeroCells, Tryd.results8, go_sem, t0, t1, t2, t3]) rfl ?_
    rw [HE.out]
    exact ⟨rfl, stored4 B4.out (w.heap.size + 1 + 1) (by omega) _ _ _ _⟩
  | true =>
  have HP := Lib.hid hp
  clear hp
  cases hq : rightV 4 y with
  | false =>
    have HE := Lib.hid (opZ_right (s := s) (x := x) (y := y) (.inr (.inl hq)))
    clear hq
    obtain ⟨t0, t1, t2, t3⟩ := K4.out.cells
    have z0 := frozen_of_row _ _ 0 _ _ K4.out
    have z1 := frozen_of_row _ _ 1 _ _ K4.out
    have z2 := frozen_of_row _ _ 2 _ _ K4.out
    have z3 := frozen_of_row _ _ 3 _ _ K4.out
    go_wp2_with fail
    refine bodyPost_ret (v := .tuple #[zeroCells, .bool false]) (by simp [results, zeroCells, Tryd.results8, go_sem, t0, t1, t2, t3]) rfl ?_
    rw [HE.out]
    exact ⟨rfl, stored4 B4.out (w.heap.size + 1 + 1) (by omega) _ _ _ _⟩
  | true =>
  have HQ := Lib.hid hq
  clear hq
  obtain ⟨r0, r1, r2, r3⟩ := X4.out.cells
  obtain ⟨q0, q1, q2, q3⟩ := Y4.out.cells
  by_cases hkx : x.kind = 1
  case neg =>
    have HE := Lib.hid (opZ_right (s := s) (x := x) (y := y) (.inr (.inr (.inl hkx))))
    obtain ⟨t0, t1, t2, t3⟩ := K4.out.cells
    have z0 := frozen_of_row _ _ 0 _ _ K4.out
    have z1 := frozen_of_row _ _ 1 _ _ K4.out
    have z2 := frozen_of_row _ _ 2 _ _ K4.out
    have z3 := frozen_of_row _ _ 3 _ _ K4.out
    go_wp2_with fail
    refine bodyPost_ret (v := .tuple #[zeroCells, .bool false]) (by simp [results, zeroCells, Tryd.results8, go_sem, t0, t1, t2, t3]) rfl ?_
    rw [HE.out]
    exact ⟨rfl, stored4 B4.out (w.heap.size + 1 + 1) (by omega) _ _ _ _⟩
  have HKX := Lib.hid hkx
  rw [hkx] at r0
  clear hkx
  by_cases hky : y.kind = 1
  case neg =>
    have HE := Lib.hid (opZ_right (s := s) (x := x) (y := y) (.inr (.inr (.inr hky))))
    obtain ⟨t0, t1, t2, t3⟩ := K4.out.cells
    have z0 := frozen_of_row _ _ 0 _ _ K4.out
    have z1 := frozen_of_row _ _ 1 _ _ K4.out
    have z2 := frozen_of_row _ _ 2 _ _ K4.out
    have z3 := frozen_of_row _ _ 3 _ _ K4.out
    go_wp2_with fail
    refine bodyPost_ret (v := .tuple #[zeroCells, .bool false]) (by simp [results, zeroCells, Tryd.results8, go_sem, t0, t1, t2, t3]) rfl ?_
    rw [HE.out]
    exact ⟨rfl, stored4 B4.out (w.heap.size + 1 + 1) (by omega) _ _ _ _⟩
  have HKY := Lib.hid hky
  rw [hky] at q0
  clear hky
  obtain ⟨hnx, hny, he⟩ := opZ_num (s := s) HP.out HQ.out HKX.out HKY.out
  have HE := Lib.hid he
  have hp := mul_bound (num_bounds hnx) (num_bounds hny)
  have hbx := num_bounds hnx
  have hby := num_bounds hny
  have HNX := Lib.hid hnx
  have HM : Hid (wrap64 (x.num * y.num) = x.num * y.num) := by show _ = _; unfold wrap64; omega
  have HA : Hid (I64 (x.num + y.num)) := ⟨by omega, by omega⟩
  have HS : Hid (I64 (x.num - y.num)) := ⟨by omega, by omega⟩
  have HMM : Hid (I64 (x.num * y.num)) := ⟨by omega, by omega⟩
  obtain ⟨hbx1, hbx2⟩ := hbx
  obtain ⟨hby1, hby2⟩ := hby
  clear he hnx hny hp
  cases h0 : (s.toList == [43]) with
  | true =>
    have HE2 : Hid (opZ s x y = if rightV 4 (numV (x.num + y.num)) = true then some (x.num + y.num) else none) := by show _ = _; rw [HE.out, reckonZ, h0]; rfl
    go_wp2_with fail
    refine (refNumber_any _ _).mono ?_
    rintro e w5 ⟨rfl, b5⟩
    go_wp2_with fail
    refine (made_any (numV (x.num + y.num)) 0 _ _ _ _ _ (Nat.zero_le _) (rep_num HA.out)).mono ?_
    rintro e w6 ⟨rfl, b6⟩
    have B6 := Lib.hid (Below.step B4.out (Below.step b5 b6))
    have K6 := Lib.hid (K4.out.on (Below.step b5 b6))
    clear b5 b6
    obtain ⟨t0, t1, t2, t3⟩ := K6.out.cells
    have z0 := frozen_of_row _ _ 0 _ _ K6.out
    have z1 := frozen_of_row _ _ 1 _ _ K6.out
    have z2 := frozen_of_row _ _ 2 _ _ K6.out
    have z3 := frozen_of_row _ _ 3 _ _ K6.out
    cases hr : rightV 4 (numV (x.num + y.num)) with
    | false =>
      have HE3 : Hid (opZ s x y = none) := by show _ = _; rw [HE2.out, hr]; rfl
      clear hr
      rw [if_neg (by decide)]
      dsimp only [zeroCells]
      go_wp2_with fail
      refine bodyPost_ret (v := .tuple #[.agg #[.int .i64 0, .int .i64 0, .string ⟨#[]⟩, .slice none 0 0], .bool false]) (by simp [results, Tryd.results8, go_sem, t0, t1, t2, t3]) rfl ?_
      rw [HE3.out]
      exact ⟨rfl, stored4 B6.out (w.heap.size + 1 + 1) (by omega) _ _ _ _⟩
    | true =>
      have HE3 : Hid (opZ s x y = some (x.num + y.num)) := by show _ = _; rw [HE2.out, hr]; rfl
      clear hr
      rw [if_pos rfl]
      go_wp2_with fail
      refine bodyPost_ret (v := .tuple #[.agg #[.int .i64 1, .int .i64 (x.num + y.num), .string ⟨#[]⟩, .slice none 0 0], .bool true]) (by simp [results, Tryd.results8, go_sem, t0, t1, t2, t3]) rfl ?_
      rw [HE3.out]
      exact ⟨rfl, stored4 B6.out (w.heap.size + 1 + 1) (by omega) _ _ _ _⟩
  | false =>
  cases h1 : (s.toList == [45]) with
  | true =>
    have HE2 : Hid (opZ s x y = if rightV 4 (numV (x.num - y.num)) = true then some (x.num - y.num) else none) := by show _ = _; rw [HE.out, reckonZ, h0, h1]; rfl
    go_wp2_with fail
    refine (refNumber_any _ _).mono ?_
    rintro e w5 ⟨rfl, b5⟩
    go_wp2_with fail
    refine (made_any (numV (x.num - y.num)) 0 _ _ _ _ _ (Nat.zero_le _) (rep_num HS.out)).mono ?_
    rintro e w6 ⟨rfl, b6⟩
    have B6 := Lib.hid (Below.step B4.out (Below.step b5 b6))
    have K6 := Lib.hid (K4.out.on (Below.step b5 b6))
    clear b5 b6
    obtain ⟨t0, t1, t2, t3⟩ := K6.out.cells
    have z0 := frozen_of_row _ _ 0 _ _ K6.out
    have z1 := frozen_of_row _ _ 1 _ _ K6.out
    have z2 := frozen_of_row _ _ 2 _ _ K6.out
    have z3 := frozen_of_row _ _ 3 _ _ K6.out
    cases hr : rightV 4 (numV (x.num - y.num)) with
    | false =>
      have HE3 : Hid (opZ s x y = none) := by show _ = _; rw [HE2.out, hr]; rfl
      clear hr
      rw [if_neg (by decide)]
      dsimp only [zeroCells]
      go_wp2_with fail
      refine bodyPost_ret (v := .tuple #[.agg #[.int .i64 0, .int .i64 0, .string ⟨#[]⟩, .slice none 0 0], .bool false]) (by simp [results, Tryd.results8, go_sem, t0, t1, t2, t3]) rfl ?_
      rw [HE3.out]
      exact ⟨rfl, stored4 B6.out (w.heap.size + 1 + 1) (by omega) _ _ _ _⟩
    | true =>
      have HE3 : Hid (opZ s x y = some (x.num - y.num)) := by show _ = _; rw [HE2.out, hr]; rfl
      clear hr
      rw [if_pos rfl]
      go_wp2_with fail
      refine bodyPost_ret (v := .tuple #[.agg #[.int .i64 1, .int .i64 (x.num - y.num), .string ⟨#[]⟩, .slice none 0 0], .bool true]) (by simp [results, Tryd.results8, go_sem, t0, t1, t2, t3]) rfl ?_
      rw [HE3.out]
      exact ⟨rfl, stored4 B6.out (w.heap.size + 1 + 1) (by omega) _ _ _ _⟩
  | false =>
  cases h2 : (s.toList == [42]) with
  | true =>
    have HE2 : Hid (opZ s x y = if rightV 4 (numV (x.num * y.num)) = true then some (x.num * y.num) else none) := by show _ = _; rw [HE.out, reckonZ, h0, h1, h2]; rfl
    go_wp2_with fail
    rw [HM.out]
    refine (refNumber_any _ _).mono ?_
    rintro e w5 ⟨rfl, b5⟩
    go_wp2_with fail
    refine (made_any (numV (x.num * y.num)) 0 _ _ _ _ _ (Nat.zero_le _) (rep_num HMM.out)).mono ?_
    rintro e w6 ⟨rfl, b6⟩
    have B6 := Lib.hid (Below.step B4.out (Below.step b5 b6))
    have K6 := Lib.hid (K4.out.on (Below.step b5 b6))
    clear b5 b6
    obtain ⟨t0, t1, t2, t3⟩ := K6.out.cells
    have z0 := frozen_of_row _ _ 0 _ _ K6.out
    have z1 := frozen_of_row _ _ 1 _ _ K6.out
    have z2 := frozen_of_row _ _ 2 _ _ K6.out
    have z3 := frozen_of_row _ _ 3 _ _ K6.out
    cases hr : rightV 4 (numV (x.num * y.num)) with
    | false =>
      have HE3 : Hid (opZ s x y = none) := by show _ = _; rw [HE2.out, hr]; rfl
      clear hr
      rw [if_neg (by decide)]
      dsimp only [zeroCells]
      go_wp2_with fail
      refine bodyPost_ret (v := .tuple #[.agg #[.int .i64 0, .int .i64 0, .string ⟨#[]⟩, .slice none 0 0], .bool false]) (by simp [results, Tryd.results8, go_sem, t0, t1, t2, t3]) rfl ?_
      rw [HE3.out]
      exact ⟨rfl, stored4 B6.out (w.heap.size + 1 + 1) (by omega) _ _ _ _⟩
    | true =>
      have HE3 : Hid (opZ s x y = some (x.num * y.num)) := by show _ = _; rw [HE2.out, hr]; rfl
      clear hr
      rw [if_pos rfl]
      go_wp2_with fail
      refine bodyPost_ret (v := .tuple #[.agg #[.int .i64 1, .int .i64 (x.num * y.num), .string ⟨#[]⟩, .slice none 0 0], .bool true]) (by simp [results, Tryd.results8, go_sem, t0, t1, t2, t3]) rfl ?_
      rw [HE3.out]
      exact ⟨rfl, stored4 B6.out (w.heap.size + 1 + 1) (by omega) _ _ _ _⟩
  | false =>
    have HE2 : Hid (opZ s x y = none) := by show _ = _; rw [HE.out, reckonZ, h0, h1, h2]; rfl
    obtain ⟨t0, t1, t2, t3⟩ := K4.out.cells
    have z0 := frozen_of_row _ _ 0 _ _ K4.out
    have z1 := frozen_of_row _ _ 1 _ _ K4.out
    have z2 := frozen_of_row _ _ 2 _ _ K4.out
    have z3 := frozen_of_row _ _ 3 _ _ K4.out
    go_wp2_with fail
    refine bodyPost_ret (v := .tuple #[zeroCells, .bool false]) (by simp [results, zeroCells, Tryd.results8, go_sem, t0, t1, t2, t3]) rfl ?_
    rw [HE2.out]
    exact ⟨rfl, stored4 B4.out (w.heap.size + 1 + 1) (by omega) _ _ _ _⟩

end Go.Proofs.YtaomlkglodeaoaaDoor
