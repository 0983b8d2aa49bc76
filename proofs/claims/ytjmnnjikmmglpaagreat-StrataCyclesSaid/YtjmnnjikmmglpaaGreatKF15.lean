/-
  ScNames, ScOnce, ScFits, ScVars, ScWalk
-/
import Derived.Test.YtjmnnjikmmglpaaGreatProg
import Derived.Test.YtjmnnjikmmglpaaGreatKF04
import Derived.Test.YtjmnnjikmmglpaaGreatKF14
import Derived.Test.YtjmnnjikmmglpaaGreatKF03
import Derived.StringKeys
import Derived.Lib.Hide
import Derived.Maps.OwnSet
import Derived.WalkKit
import Derived.RangeFuncKeeps
import Derived.RangeFuncBound
import Derived.RangeFuncLeaves
import Derived.Shelf.Abstract
import Derived.OwnWalkIn
import Derived.TacticsInMore
import Derived.LoopNIn
import Derived.LoopIn
namespace Go.Proofs.YtjmnnjikmmglpaaGreat
open Go.RowKit Go.Maps
def inB (l : List ByteArray) (s : ByteArray) : Bool := l.any fun x => x.data.toList == s.data.toList
theorem keyName : Keyed Tryz.prog 9 := string_keyed Tryz.underlying9
theorem zeroUnit (w : World) : (zeroValue 168).run Tryz.prog w = .ok (.agg #[]) w := by kernel_rfl
def setD (l : List ByteArray) : DataW Unit := setOf (.agg []) (l.map fun s => Lit.string s.data.toList)
def SetAt (w : World) (b n : Nat) (l : List ByteArray) : Prop := w.ownsMap Tryz.prog 9 (unitElem (H := Unit)) b n (setD l) ∧ ∀ s ∈ l, s.size ≤ maxLen
theorem SetAt.lt {w : World} {b n : Nat} {l : List ByteArray} (h : SetAt w b n l) : b < w.heap.size := h.1.lt
theorem SetAt.mono {w : World} {b n m : Nat} {l : List ByteArray} (h : SetAt w b n l) (hn : n ≤ m) : SetAt w b m l := ⟨h.1.mono hn, h.2⟩
theorem SetAt.grown {w w' : World} {b n : Nat} {l : List ByteArray} (h : SetAt w b n l) {row : Option Nat} (hg : w.grownBy w' row) (hne : some b ≠ row) : SetAt w' b n l := ⟨h.1.kept hg hne, h.2⟩
theorem grown_of_below {w w' : World} (h : Below w.heap.size w w') : w.grownBy w' none := ⟨h.os, h.tape, h.output, h.size, fun k hk _ => h.block k hk⟩
theorem SetAt.on {w w' : World} {b n : Nat} {l : List ByteArray} (h : SetAt w b n l) (hg : Below w.heap.size w w') : SetAt w' b n l := h.grown (grown_of_below hg) (by simp)
theorem setAt_new (w : World) : SetAt (w.alloc (.map #[] 0)) w.heap.size 0 [] := ⟨World.ownsMap_made _ _ _ _, fun _ h => by cases h⟩
theorem keyOf_name {s : ByteArray} (hs : s.size ≤ maxLen) : keyOf Tryz.prog 9 (.string s) = some (.string s.data.toList) := WideMaps.keyOf_string_mk Tryz.underlying9 hs
theorem has_setD {l : List ByteArray} (hl : ∀ s ∈ l, s.size ≤ maxLen) (s : ByteArray) : Maps.has (setD l) (.string s.data.toList) = inB l s := by
 rw [setD, has_setOf]
 ·rw [List.any_map, inB]
  rfl
 ·intro x hx
  obtain ⟨s, hs, rfl⟩ := List.mem_map.1 hx;exact keyName.key (keyOf_name (hl s hs))
set_option maxRecDepth 100000 in
theorem has_any (b n : Nat) (l : List ByteArray) (s : ByteArray) (w : World) (hs : s.size ≤ maxLen) (h : SetAt w b n l) :
  Calls Tryz.prog 63 #[.map (some b), .string s] w fun e w' => e = .returned (.bool (inB l s)) ∧ Below w.heap.size w w' := by
 have hown := h.1;have hkey := keyOf_name hs;have HH := Lib.hid (has_setD h.2 s);clear h hs;go_enter Tryz.func63, Tryz.ntmps63
 go_wp2_with (first
  | (at_lookup; refine wpList_lookup_own_unit _ rfl _ _ 123 rfl 9 168 keyName Tryz.underlying123 (zeroUnit _) b n _ rfl hown _ _ rfl hkey ?_; rw [HH.out])
  | fail)
 go_ret
 exact ⟨rfl, (Below.refl _ _).alloc (Nat.le_refl _) _⟩
set_option maxRecDepth 100000 in
theorem add_any (b n : Nat) (l : List ByteArray) (s : ByteArray) (w : World) (hn : n < maxLen) (hs : s.size ≤ maxLen) (h : SetAt w b n l) :
  Calls Tryz.prog 64 #[.map (some b), .string s] w fun e w' => e = .returned (.tuple #[]) ∧ SetAt w' b (n + 1) (l ++ [s]) ∧ w.grownBy w' (some b) := by
 have hown := h.1;have hkey := keyOf_name hs
 have HL : Hid (∀ x ∈ l ++ [s], x.size ≤ maxLen) := by
  intro x hx;rcases List.mem_append.1 hx with hx | hx
  ·exact h.2 x hx
  ·rw [List.mem_singleton.1 hx]; exact hs
 clear h hs;go_enter Tryz.func64, Tryz.ntmps64
 go_wp2_with (first
  | (at_mapUpdate; refine wpList_mapUpdate_own _ rfl _ _ _ 123 rfl 9 168 keyName Tryz.underlying123 (unitElem (H := Unit)) b n _ rfl hown hn _ _ _ rfl rfl hkey _ [] unitElem_mk ?_; intro w1 hown1 hgrow1)
  | fail)
 go_end0
 exact ⟨rfl, ⟨by rw [setD, List.map_append, List.map_cons, List.map_nil, setOf_snoc]; exact hown1, HL.out⟩, hgrow1⟩
end Go.Proofs.YtjmnnjikmmglpaaGreat
namespace Go.Proofs.YtjmnnjikmmglpaaGreat
open Go.RowKit
def onceB : List ByteArray → List De → Bool
 | _, [] => true
 | seen, d :: l => !inB seen d.name && onceB (seen ++ [d.name]) l
theorem take_names {α β : Type} (f : α → β) (l : List α) {k : Nat} (h : k < l.length) : (l.take (k + 1)).map f = (l.take k).map f ++ [f l[k]] := by
 rw [List.take_succ_eq_append_getElem h, List.map_append]; rfl
set_option maxRecDepth 100000 in
set_option maxHeartbeats 1000000 in
theorem once_any (l : List De) (S : Nat → Prop) (w : World) (v : Value) (hS : ∀ k, S k → k < w.heap.size) (hp : RepDes S w l v) :
  Calls Tryz.prog 32 #[v] w fun e w' => e = .returned (.bool (onceB [] l)) ∧ Below w.heap.size w w' := by
 have hlb := SlG.bytes hp;have HA := Lib.hid hp;obtain ⟨f0, f1, rfl⟩ := SlG.form hp;clear hp;have hmm := @run_makeMap Tryz.prog;go_enter Tryz.func32, Tryz.ntmps32
 go_wp2_with fail
 have x0 := Lib.hid (setAt_new w);have d0 := Lib.hid ((Below.refl w.heap.size w).alloc (Nat.le_refl _) (.map #[] 0));generalize w.alloc (.map #[] 0) = w1 at *;clear hmm;go_loopw [9] (fun i wr => ∃ k : Nat, k ≤ l.length ∧ i = .int .i64 k ∧ Hid (onceB [] l = onceB ((l.take k).map De.name) (l.drop k)) ∧ Hid (SetAt wr w.heap.size k ((l.take k).map De.name)) ∧ Below w.heap.size w wr) (fun i _ => l.length - (intOf i).toNat)
 case atStart => exact ⟨0, Nat.zero_le _, rfl, rfl, x0.out, d0.out⟩
 case round =>
  obtain ⟨k, hk, rfl, hrec, hset, hbel⟩ := hrel
  by_cases hl : k < l.length
  ·have hA := (SlG.on (fun _ h => h) (fun j hj => hbel.block j (hS j hj)) (fun _ _ _ h => h) HA.out : RepDes S wr l (.slice f0 l.length f1))
   obtain ⟨-, -, b, o, rfl, hSb, g0, g1, g⟩ := RepDes.at hA k hl;have HD := Lib.hid (List.drop_eq_getElem_cons hl);have HT := Lib.hid (take_names De.name l hl);have HN := Lib.hid g.2.2.1;clear hA g hSb;generalize l[k] = z at *;have hba := below_alloc wr (.cells #[.string z.name, .int .i64 z.arity] 112);have hbx := boxDe_new wr (.string z.name) (.int .i64 z.arity);have HB := Lib.hid (Below.step hbel hba);have HS1 := Lib.hid (hset.out.on hba);obtain ⟨e0, e1⟩ := hbx.cells;have HX := Lib.hid hbx;clear hbel hba hbx hset;go_wp2_with fail
   clear g0 g1;generalize wr.alloc (.cells #[.string z.name, .int .i64 z.arity] 112) = wa at *;refine (has_any _ k _ z.name wa HN.out HS1.out).mono ?_;rintro e w3 ⟨rfl, hb3⟩;have HB3 := Lib.hid (Below.step HB.out hb3);have HS3 := Lib.hid (HS1.out.on hb3);have HX3 := Lib.hid (HX.out.on hb3);clear hb3 e0 e1;obtain ⟨e0, e1⟩ := HX3.out.cells
   cases hc : inB ((l.take k).map De.name) z.name with
   | true =>
    have HF : Hid (onceB [] l = false) := by show _ = _; rw [hrec.out, HD.out, onceB, hc]; rfl
    clear hc;go_wp2_with fail
    go_ret
    exact ⟨ret_bool HF.out.symm, HB3.out⟩
   | false =>
    have HF : Hid (onceB [] l = onceB ((l.take (k + 1)).map De.name) (l.drop (k + 1))) := by show _ = _; rw [hrec.out, HD.out, onceB, hc, HT.out]; rfl
    clear hc;go_wp2_with fail
    refine (add_any _ k _ z.name w3 (by unfold maxLen; omega) HN.out HS3.out).mono ?_;rintro e w4 ⟨rfl, hs4, hg4⟩;have HS4 : Hid (SetAt w4 w.heap.size (k + 1) ((l.take (k + 1)).map De.name)) := by show SetAt _ _ _ _; rw [HT.out]; exact hs4
    have HB4 := Lib.hid (HB3.out.grown hg4 HB3.out.size (fun j e => by cases e; exact Nat.le_refl _));clear hs4 hg4 e0 e1;go_wp2_with fail
    go_roundw
    case rel => exact ⟨k + 1, hl, by go_num, HF, HS4, HB4.out⟩
    case measure => simp [intOf]; omega
  ·have HF : Hid (onceB [] l = true) := by show _ = _; rw [hrec.out, List.drop_of_length_le (by omega)]; rfl
   go_wp2_with fail
   go_ret
   exact ⟨ret_bool HF.out.symm, hbel⟩
end Go.Proofs.YtjmnnjikmmglpaaGreat
namespace Go.Proofs.YtjmnnjikmmglpaaGreat
open Go.RowKit
def factB (l : List De) (t : Fa) : Bool := arityL l t.name == (t.args.length : Int)
set_option maxRecDepth 100000 in
set_option maxHeartbeats 1000000 in
theorem factsFit_any (p : Pr) (S : Nat → Prop) (w : World) (c0 c1 c2 : Value) (hS : ∀ k, S k → k < w.heap.size) (hp : RepPr S w p c0 c1 c2) :
  Calls Tryz.prog 33 #[.agg #[c0, c1, c2]] w fun e w' => e = .returned (.bool (p.facts.all (factB p.decls))) ∧ Below w.heap.size w w' := by
 have hlb := SlG.bytes hp.2.1;have HP := Lib.hid hp;obtain ⟨f0, f1, rfl⟩ := SlG.form hp.1;obtain ⟨f2, f3, rfl⟩ := SlG.form hp.2.1;obtain ⟨f4, f5, rfl⟩ := SlG.form hp.2.2;clear hp;go_enter Tryz.func33, Tryz.ntmps33
 go_wp2_with fail
 have x0 := boxPr_new w (.slice f0 p.decls.length f1) (.slice f2 p.facts.length f3) (.slice f4 p.rules.length f5);have d0 := below_alloc w (.cells #[.slice f0 p.decls.length f1, .slice f2 p.facts.length f3, .slice f4 p.rules.length f5] 28);generalize w.alloc (.cells #[.slice f0 p.decls.length f1, .slice f2 p.facts.length f3, .slice f4 p.rules.length f5] 28) = w1 at *;obtain ⟨p0, p1, p2⟩ := x0.cells;have HD0 := Lib.hid d0; have HX0 := Lib.hid x0
 have HP1 := Lib.hid (RepPr.on (S' := fun k => k < w.heap.size) hS (fun k hk => d0.block k (hS k hk)) HP.out);clear d0 x0 HP;go_wp2_with fail
 clear p0 p1 p2;go_loopw [8] (fun i wr => ∃ k : Nat, k ≤ p.facts.length ∧ i = .int .i64 k ∧ Hid (p.facts.all (factB p.decls) = (p.facts.drop k).all (factB p.decls)) ∧ Below w1.heap.size w1 wr) (fun i _ => p.facts.length - (intOf i).toNat)
 case atStart => exact ⟨0, Nat.zero_le _, rfl, rfl, Below.refl _ _⟩
 case round =>
  obtain ⟨k, hk, rfl, hrec, hbel⟩ := hrel;have HW := Lib.hid (show w.heap.size ≤ w1.heap.size from HD0.out.size)
  by_cases hl : k < p.facts.length
  ·have HP2 := Lib.hid (RepPr.on (fun _ h => h) (fun k hk => hbel.block k (Nat.lt_of_lt_of_le hk HW.out)) HP1.out)
   obtain ⟨-, -, b, o, ga, gc, rfl, hSb, g0, g1, g⟩ := RepFas.at HP2.out.2.1 k hl;have HD := Lib.hid (List.drop_eq_getElem_cons hl);clear g hSb;generalize p.facts[k] = z at *;have hba := below_alloc wr (.cells #[.string z.name, .slice ga z.args.length gc] 73);have hbx := boxFa_new wr (.string z.name) (.slice ga z.args.length gc);have HB := Lib.hid (Below.step hbel hba);have HP3 := Lib.hid (RepPr.on (fun _ h => h) (fun k hk => hba.block k (Nat.lt_of_lt_of_le hk (Nat.le_trans HW.out hbel.size))) HP2.out);obtain ⟨e0, e1⟩ := hbx.cells;obtain ⟨p0, p1, p2⟩ := (HX0.out.on (Below.step hbel hba)).cells;clear hba hbx HP2;go_wp2_with fail
   clear g0 g1;generalize wr.alloc (.cells #[.string z.name, .slice ga z.args.length gc] 73) = wa at *;refine (fits_any p z.name (z.args.length : Int) (fun k => k < w.heap.size) wa _ _ _ (fun k hk => Nat.lt_of_lt_of_le hk (Nat.le_trans HW.out HB.out.size)) HP3.out).mono ?_;rintro e w3 ⟨rfl, hb3⟩;have HB3 := Lib.hid (Below.step HB.out hb3);clear hb3 e0 e1 p0 p1 p2 hbel
   cases hc : (arityL p.decls z.name == (z.args.length : Int)) with
   | false =>
    have HF : Hid (p.facts.all (factB p.decls) = false) := by show _ = _; rw [hrec.out, HD.out, List.all_cons, factB, hc]; rfl
    clear hc;go_wp2_with fail
    go_ret
    exact ⟨ret_bool HF.out.symm, Below.step HD0.out HB3.out⟩
   | true =>
    have HF : Hid (p.facts.all (factB p.decls) = (p.facts.drop (k + 1)).all (factB p.decls)) := by show _ = _; rw [hrec.out, HD.out, List.all_cons, factB, hc]; rfl
    clear hc;go_wp2_with fail
    go_roundw
    case rel => exact ⟨k + 1, hl, by go_num, HF, HB3.out⟩
    case measure => simp [intOf]; omega
  ·have HF : Hid (p.facts.all (factB p.decls) = true) := by show _ = _; rw [hrec.out, List.drop_of_length_le (by omega)]; rfl
   go_wp2_with fail
   go_ret
   exact ⟨ret_bool HF.out.symm, Below.step HD0.out hbel⟩
def bodyLiB (l : List De) (x : Li) : Bool := if x.kind = 1 ∨ x.kind = 2 then arityL l x.name == (x.args.length : Int) else true
set_option maxRecDepth 100000 in
set_option maxHeartbeats 1000000 in
theorem bodyFits_any (p : Pr) (l : List Li) (S : Nat → Prop) (w : World) (c0 c1 c2 v : Value) (hS : ∀ k, S k → k < w.heap.size) (hp : RepPr S w p c0 c1 c2) (hl : RepLis S w l v) :
  Calls Tryz.prog 66 #[.agg #[c0, c1, c2], v] w fun e w' => e = .returned (.bool (l.all (bodyLiB p.decls))) ∧ Below w.heap.size w w' := by
 have hlb := SlG.bytes hl;have HP := Lib.hid hp; have HL := Lib.hid hl
 obtain ⟨f0, f1, rfl⟩ := SlG.form hp.1;obtain ⟨f2, f3, rfl⟩ := SlG.form hp.2.1;obtain ⟨f4, f5, rfl⟩ := SlG.form hp.2.2;obtain ⟨f6, f7, rfl⟩ := SlG.form hl;clear hp hl;go_enter Tryz.func66, Tryz.ntmps66
 go_wp2_with fail
 have x0 := boxPr_new w (.slice f0 p.decls.length f1) (.slice f2 p.facts.length f3) (.slice f4 p.rules.length f5);have d0 := below_alloc w (.cells #[.slice f0 p.decls.length f1, .slice f2 p.facts.length f3, .slice f4 p.rules.length f5] 28);generalize w.alloc (.cells #[.slice f0 p.decls.length f1, .slice f2 p.facts.length f3, .slice f4 p.rules.length f5] 28) = w1 at *;have HD0 := Lib.hid d0; have HX0 := Lib.hid x0
 have HP1 := Lib.hid (RepPr.on (S' := fun k => k < w.heap.size) hS (fun k hk => d0.block k (hS k hk)) HP.out);have HL1 := Lib.hid (SlG.on (S' := fun k => k < w.heap.size) hS (fun k hk => d0.block k (hS k hk)) (fun x _ c hx => RepLi.on hS (fun k hk => d0.block k (hS k hk)) hx) HL.out : RepLis (fun k => k < w.heap.size) w1 l (.slice f6 l.length f7));clear d0 x0 HP HL;go_loopw [9] (fun i wr => ∃ k : Nat, k ≤ l.length ∧ i = .int .i64 k ∧ Hid (l.all (bodyLiB p.decls) = (l.drop k).all (bodyLiB p.decls)) ∧ Below w1.heap.size w1 wr) (fun i _ => l.length - (intOf i).toNat)
 case atStart => exact ⟨0, Nat.zero_le _, rfl, rfl, Below.refl _ _⟩
 case round =>
  obtain ⟨k, hk, rfl, hrec, hbel⟩ := hrel;have HW := Lib.hid (show w.heap.size ≤ w1.heap.size from HD0.out.size)
  by_cases hl : k < l.length
  ·have HP2 := Lib.hid (RepPr.on (fun _ h => h) (fun k hk => hbel.block k (Nat.lt_of_lt_of_le hk HW.out)) HP1.out)
   have hA := (SlG.on (fun _ h => h) (fun k hk => hbel.block k (Nat.lt_of_lt_of_le hk HW.out)) (fun x _ c hx => RepLi.on (fun _ h => h) (fun k hk => hbel.block k (Nat.lt_of_lt_of_le hk HW.out)) hx) HL1.out : RepLis (fun k => k < w.heap.size) wr l (.slice f6 l.length f7));obtain ⟨-, -, b, o, ga, gc, rfl, hSb, g0, g1, g2, g⟩ := RepLis.at hA k hl;have HD := Lib.hid (List.drop_eq_getElem_cons hl);clear g hSb hA;generalize l[k] = z at *;have hba := below_alloc wr (.cells #[.int .i64 z.kind, .string z.name, .slice ga z.args.length gc] 60);have hbx := boxLi_new wr (.int .i64 z.kind) (.string z.name) (.slice ga z.args.length gc);have HB := Lib.hid (Below.step hbel hba);have HP3 := Lib.hid (RepPr.on (fun _ h => h) (fun k hk => hba.block k (Nat.lt_of_lt_of_le hk (Nat.le_trans HW.out hbel.size))) HP2.out);obtain ⟨e0, e1, e2⟩ := hbx.cells;obtain ⟨p0, p1, p2⟩ := (HX0.out.on (Below.step hbel hba)).cells;clear hba hbx HP2
   by_cases hkd : z.kind = 1 ∨ z.kind = 2
   ·have HLB : Hid (bodyLiB p.decls z = (arityL p.decls z.name == (z.args.length : Int))) := by show _ = _; rw [bodyLiB, if_pos hkd]
    have hk1 : (z.kind == 1) = true ∨ ((z.kind == 1) = false ∧ (z.kind == 2) = true) := by
     rcases hkd with h | h <;> simp [h]
    clear hkd;rcases hk1 with hk1 | ⟨hk1, hk2⟩
    all_goals
     go_wp2_with fail
     clear g0 g1 g2;generalize wr.alloc (.cells #[.int .i64 z.kind, .string z.name, .slice ga z.args.length gc] 60) = wa at *;refine (fits_any p z.name (z.args.length : Int) (fun k => k < w.heap.size) wa _ _ _ (fun k hk => Nat.lt_of_lt_of_le hk (Nat.le_trans HW.out HB.out.size)) HP3.out).mono ?_;rintro e w3 ⟨rfl, hb3⟩;have HB3 := Lib.hid (Below.step HB.out hb3);clear hb3 e0 e1 e2 p0 p1 p2 hbel
     cases hc : (arityL p.decls z.name == (z.args.length : Int)) with
     | false =>
      have HF : Hid (l.all (bodyLiB p.decls) = false) := by show _ = _; rw [hrec.out, HD.out, List.all_cons, HLB.out, hc]; rfl
      clear hc;go_wp2_with fail
      go_ret
      exact ⟨ret_bool HF.out.symm, Below.step HD0.out HB3.out⟩
     | true =>
      have HF : Hid (l.all (bodyLiB p.decls) = (l.drop (k + 1)).all (bodyLiB p.decls)) := by show _ = _; rw [hrec.out, HD.out, List.all_cons, HLB.out, hc]; rfl
      clear hc;go_wp2_with fail
      go_roundw
      case rel => exact ⟨k + 1, hl, by go_num, HF, HB3.out⟩
      case measure => simp [intOf]; omega
   ·have HF : Hid (l.all (bodyLiB p.decls) = (l.drop (k + 1)).all (bodyLiB p.decls)) := by show _ = _; rw [hrec.out, HD.out, List.all_cons, bodyLiB, if_neg hkd]; rfl
    have hk1 : (z.kind == 1) = false := by simp; omega
    have hk2 : (z.kind == 2) = false := by simp; omega
    clear hkd;go_wp2_with fail
    go_roundw
    case rel => exact ⟨k + 1, hl, by go_num, HF, HB.out⟩
    case measure => simp [intOf]; omega
  ·have HF : Hid (l.all (bodyLiB p.decls) = true) := by show _ = _; rw [hrec.out, List.drop_of_length_le (by omega)]; rfl
   go_wp2_with fail
   go_ret
   exact ⟨ret_bool HF.out.symm, Below.step HD0.out hbel⟩
end Go.Proofs.YtjmnnjikmmglpaaGreat
namespace Go.Proofs.YtjmnnjikmmglpaaGreat
open Go.RowKit
mutual
def varsM : Tm → List ByteArray
 | .mk k s _ l => (if k = 1 then [s] else []) ++ varsL l
def varsL : List Tm → List ByteArray
 | [] => []
 | t :: l => varsM t ++ varsL l
end
theorem varsM_eq (t : Tm) : varsM t = (if t.kind = 1 then [t.name] else []) ++ varsL t.args := by
 cases t with
 | mk k s x l => rw [varsM]; rfl
theorem varsL_append (l m : List Tm) : varsL (l ++ m) = varsL l ++ varsL m := by
 induction l with
 | nil => simp [varsL]
 | cons t l ih => simp [varsL, ih]
theorem varsL_take (l : List Tm) {k : Nat} (h : k < l.length) : varsL (l.take (k + 1)) = varsL (l.take k) ++ ((if l[k].kind = 1 then [l[k].name] else []) ++ varsL l[k].args) := by
 rw [List.take_succ_eq_append_getElem h, varsL_append, ← varsM_eq];simp [varsL]
abbrev Nm := { s : ByteArray // s.size ≤ maxLen }
def nm (s : ByteArray) : Nm := if h : s.size ≤ maxLen then ⟨s, h⟩ else ⟨⟨#[]⟩, by decide⟩
theorem nm_of {s : ByteArray} (h : s.size ≤ maxLen) : (nm s).1 = s := by rw [nm, dif_pos h]
def namesL (l : List Tm) : List Nm := (varsL l).map nm
theorem namesL_take (l : List Tm) {k : Nat} (h : k < l.length) : namesL (l.take (k + 1)) = namesL (l.take k) ++ ((if l[k].kind = 1 then [nm l[k].name] else []) ++ namesL l[k].args) := by
 rw [namesL, varsL_take l h, List.map_append, List.map_append, ← namesL, ← namesL]
 split <;> rfl
theorem namesL_length (l : List Tm) : (namesL l).length = (varsL l).length := by simp [namesL]
theorem namesL_take_le (l : List Tm) (k : Nat) : (namesL (l.take k)).length ≤ (varsL l).length := by
 rw [namesL_length]
 conv => rhs; rw [← List.take_append_drop k l, varsL_append]
 simp
theorem namesL_prefix (l : List Tm) (k : Nat) : namesL (l.take k) <+: namesL l := by
 refine ⟨namesL (l.drop k), ?_⟩;rw [namesL, namesL, namesL, ← List.map_append, ← varsL_append, List.take_append_drop]
theorem repM_name_le {S : Nat → Prop} {w : World} {l : List Tm} {v : Value} (h : RepMs S w l v) : ∀ s ∈ varsL l, s.size ≤ maxLen := by
 suffices H : ∀ (d : Nat) (l : List Tm) (v : Value), SizeOf.sizeOf l < d → RepMs S w l v → ∀ s ∈ varsL l, s.size ≤ maxLen from H _ l v (Nat.lt_succ_self _) h
 intro d
 induction d with
 | zero => intro l v hd; omega
 | succ d ih =>
  intro l v hd h
  suffices H : ∀ k, k ≤ l.length → ∀ s ∈ varsL (l.take k), s.size ≤ maxLen by
   have := H l.length (Nat.le_refl _)
   rwa [List.take_length] at this
  intro k
  induction k with
  | zero => intro _ s hs; simp [varsL] at hs
  | succ k ihk =>
   intro hk s hs;have hl : k < l.length := hk;obtain ⟨a, cap, rfl⟩ := SlG.form h;obtain ⟨-, -, b, o, fa, fc, ga, gc, -, -, -, -, -, -, -, -, -, g⟩ := RepMs.at h k hl;rw [varsL_take l hl] at hs;rcases List.mem_append.1 hs with hs | hs
   ·exact ihk (by omega) s hs
   ·rcases List.mem_append.1 hs with hs | hs
    ·split at hs
     ·rw [List.mem_singleton.1 hs]; exact (RepM.bounds g).2
     ·cases hs
    ·refine ih _ _ ?_ (RepM.lst g) s hs
     have h1 := List.sizeOf_lt_of_mem (List.getElem_mem hl)
     have h2 : SizeOf.sizeOf l[k].args < SizeOf.sizeOf l[k] := by
      cases l[k]
      simp only [Tm.args, Tm.mk.sizeOf_spec]
      omega
     omega
end Go.Proofs.YtjmnnjikmmglpaaGreat
namespace Go.Proofs.YtjmnnjikmmglpaaGreat
open Go.RowKit Go.Shelf
attribute [local go_sem] Oper.semAt_some
def keptB : Obj → Bool
 | .cells _ t _ => t != 9
 | _ => false
def KpD (n₀ D : Nat) (W W' : World) : Prop := Below n₀ W W' ∧ ∀ k o, D ≤ k → W.heap[k]? = some o → keptB o = true → W'.heap[k]? = some o
theorem KpD.refl (n₀ D : Nat) (W : World) : KpD n₀ D W W := ⟨Below.refl _ _, fun _ _ _ h _ => h⟩
theorem KpD.trans {n₀ D : Nat} {A B C : World} (h : KpD n₀ D A B) (k : KpD n₀ D B C) : KpD n₀ D A C := ⟨h.1.trans k.1, fun i o hi ho hc => k.2 i o hi (h.2 i o hi ho hc) hc⟩
theorem KpD.of_below {n₀ D : Nat} {A B C : World} (h : KpD n₀ D A B) (k : Below B.heap.size B C) (hn : n₀ ≤ B.heap.size) : KpD n₀ D A C :=
 h.trans ⟨k.mono hn, fun i _ _ ho _ => (k.block i (Array.getElem?_eq_some_iff.1 ho).1).trans ho⟩
def SK (n₀ D : Nat) (W0 : World) (k : Nat) : Prop := k < n₀ ∨ (D ≤ k ∧ ∃ o, W0.heap[k]? = some o ∧ keptB o = true)
theorem KpD.same {n₀ D : Nat} {W0 W : World} (h : KpD n₀ D W0 W) (k : Nat) (hk : SK n₀ D W0 k) : W.heap[k]? = W0.heap[k]? := by
 rcases hk with hk | ⟨hk, o, ho, hc⟩
 ·exact h.1.block k hk
 ·rw [ho]; exact h.2 k o hk ho hc
theorem KpD.putObj {n₀ D : Nat} (W : World) (l : Nat) (o o' : Obj) (hl : n₀ ≤ l) (hW : W.heap[l]? = some o) (ho : o.isCells = false) : KpD n₀ D W (W.putObj l o') := by
 have hg := grownBy_putObj' W l o';refine ⟨⟨hg.os, hg.tape, hg.output, hg.size, fun k hk => World.putObj_heap_other (by omega)⟩, fun k ok _ hk hc => ?_⟩
 by_cases e : k = l
 ·subst e
  rw [hW] at hk
  cases hk
  cases o <;> first | (cases ho; done) | (cases hc; done) | (simp [Obj.isCells] at ho)
 ·exact (World.putObj_heap_other (fun h => e h)).trans hk
theorem BoxM.kp {w w' : World} {k n₀ D : Nat} {c0 c1 c2 c3 c4 c5 c6 : Value} (h : BoxM w k c0 c1 c2 c3 c4 c5 c6) (hk : KpD n₀ D w w') (hD : D ≤ k) : BoxM w' k c0 c1 c2 c3 c4 c5 c6 := hk.2 k _ hD h rfl
theorem room_of_none {F : Fence} (hd : F.depth = none) (k : Nat) : F.room k := fun d h => by rw [hd] at h; cases h
theorem roundIn_anyDepth {F : Fence} (hd : F.depth = none) {m m' : Nat} {P : Program} {l : Nat} {f : FuncId} {tmps : Array Value} {assign body : Code} {w : World} {R : Ending → World → Prop}
  (h : RoundIn F m P l f tmps assign body w R) : RoundIn F m' P l f tmps assign body w R := ⟨h.1, fun c cs _ => h.2 c cs (room_of_none hd _)⟩
theorem yieldAt_anyDepth {F : Fence} (hd : F.depth = none) {m : Nat} (m' : Nat) {P : Program} {l : Nat} {args : Array Value} {W : World} {R : Ending → World → Prop} (h : YieldAt F m P l args W R) : YieldAt F m' P l args W R := by
 obtain ⟨fn, tmps, assign, body, hy, hR⟩ := h;exact ⟨fn, tmps, assign, body, hy, roundIn_anyDepth hd hR⟩
def WalkPost (n₀ D : Nat) (J Jx : List Nm → World → Prop) (pre xs : List Nm) (W : World) (e : Ending) (W' : World) : Prop :=
 (e = .returned (.bool true) ∧ J (pre ++ xs) W' ∧ KpD n₀ D W W') ∨ (e = .returned (.bool false) ∧ ∃ q, q <+: xs ∧ Jx (pre ++ q) W')
set_option maxRecDepth 100000 in
set_option maxHeartbeats 4000000 in
theorem walk_inside (F : Fence) (hd : F.depth = none) (h50 : F.fn 135) (hro : F.round = none) (l n₀ D N : Nat) (W0 : World) (J Jx : List Nm → World → Prop) (hJ : ∀ s W o, J s W → J s (W.alloc o))
  (hY : ∀ m pre x W, J pre W → pre.length < N → YieldAt F m Tryz.prog l #[.string x.1] W fun e W' =>
   (e = .returned (.bool true) ∧ J (pre ++ [x]) W' ∧ KpD n₀ D W W') ∨ (e = .returned (.bool false) ∧ Jx (pre ++ [x]) W')) :
  ∀ (d : Nat) (L : List Tm), SizeOf.sizeOf L < d → ∀ (n : Nat) (pre : List Nm) (W : World) (v : Value), n₀ ≤ W.heap.size → D ≤ W.heap.size → KpD n₀ D W0 W → RepMs (SK n₀ D W0) W0 L v → J pre W → pre.length + (varsL L).length ≤ N →
   CallsIn F n Tryz.prog 135 #[v, .func (.yield l) #[] #[]] W (WalkPost n₀ D J Jx pre (namesL L) W) := by
 intro d
 induction d with
 | zero => intro L hL; omega
 | succ d ih =>
  intro L hL n pre W v hn0 hD hk0 hrep hJ0 hN;have hdd : ∀ k : Nat, (F.depth.isSome = true → 1 ≤ k) := fun k h => by rw [hd] at h; cases h
  obtain ⟨a, cap, rfl⟩ := SlG.form hrep;have hlb := SlG.bytes hrep;have HA := Lib.hid hrep; have IH := Lib.hid ih; have HLd := Lib.hid hL; have HNm := Lib.hid (repM_name_le hrep)
  have HK0 := Lib.hid hk0; have HNN := Lib.hid hN; have HY := Lib.hid hY; have HJ := Lib.hid hJ
  clear hrep ih hL hN hY hJ hk0;refine callsIn_of_wp Tryz.func135 rfl h50 ?_ hro;simp only [Tryz.ntmps135, List.size_toArray, List.length_cons, List.length_nil, Nat.reduceAdd, Nat.reduceSub, Array.replicate_succ, Array.replicate_zero, List.push_toArray, List.append_toArray, List.nil_append, List.cons_append]
  gi_wp2
  gi_loopw [9] (fun i wr => ∃ k : Nat, k ≤ L.length ∧ i = .int .i64 k ∧ J (pre ++ namesL (L.take k)) wr ∧ Hid (KpD n₀ D W wr)) (fun i _ => L.length - (intOf i).toNat)
  case atStart => exact ⟨0, Nat.zero_le _, rfl, by simpa [namesL, varsL] using hJ0, KpD.refl _ _ _⟩
  case round =>
   obtain ⟨k, hk, rfl, hJs, hkp⟩ := hrel;have hn1 : n₀ ≤ wr.heap.size := Nat.le_trans hn0 hkp.out.1.size;have hD1 : D ≤ wr.heap.size := Nat.le_trans hD hkp.out.1.size
   by_cases hl : k < L.length
   ·obtain ⟨-, -, b, o, fa, fc, ga, gc, rfl, hSb, g0, g1, g2, g3, g4, g5, g6, g⟩ := RepMs.at HA.out k hl
    have hbk := (HK0.out.trans hkp.out).same b hSb;replace g0 := (World.cell?_of_block (w := W0) hbk).trans g0;replace g1 := (World.cell?_of_block (w := W0) hbk).trans g1;replace g2 := (World.cell?_of_block (w := W0) hbk).trans g2;replace g3 := (World.cell?_of_block (w := W0) hbk).trans g3;replace g4 := (World.cell?_of_block (w := W0) hbk).trans g4;replace g5 := (World.cell?_of_block (w := W0) hbk).trans g5;replace g6 := (World.cell?_of_block (w := W0) hbk).trans g6;have G := Lib.hid g;have HT := Lib.hid (namesL_take L hl)
    have HLE : Hid ((pre ++ namesL (L.take k)).length + ((if L[k].kind = 1 then [nm L[k].name] else []) ++ namesL L[k].args).length ≤ N) := by
     show _ ≤ _
     have h1 := namesL_take_le L (k + 1);rw [HT.out] at h1;have := HNN.out;simp only [List.length_append] at h1 ⊢
     omega
    have HSZ : Hid (SizeOf.sizeOf L[k].args < d) := by
     show _ < _
     have h1 := List.sizeOf_lt_of_mem (List.getElem_mem hl)
     have h2 : SizeOf.sizeOf L[k].args < SizeOf.sizeOf L[k] := by
      cases L[k]
      simp only [Tm.args, Tm.mk.sizeOf_spec]
      omega
     have := HLd.out;omega
    have HNZ := Lib.hid (RepM.bounds g).2
    have HPX : Hid (∀ q, q <+: ((if L[k].kind = 1 then [nm L[k].name] else []) ++ namesL L[k].args) → namesL (L.take k) ++ q <+: namesL L) := by
     intro q hq;obtain ⟨r, hr⟩ := hq;obtain ⟨s, hs⟩ := namesL_prefix L (k + 1);exact ⟨r ++ s, by rw [← hs, HT.out, ← hr]; simp⟩
    clear g hbk hSb;generalize L[k] = z at *;have hJa := HJ.out _ wr (.cells #[.int .i64 z.kind, .string z.name, .int .i64 z.val.kind, .int .i64 z.val.num, .string z.val.text, .slice fa z.val.list.length fc, .slice ga z.args.length gc] 68) hJs;have hba := below_alloc wr (.cells #[.int .i64 z.kind, .string z.name, .int .i64 z.val.kind, .int .i64 z.val.num, .string z.val.text, .slice fa z.val.list.length fc, .slice ga z.args.length gc] 68);have hbx := boxM_new wr (.int .i64 z.kind) (.string z.name) (.int .i64 z.val.kind) (.int .i64 z.val.num) (.string z.val.text) (.slice fa z.val.list.length fc) (.slice ga z.args.length gc);have HKA := Lib.hid (hkp.out.of_below hba hn1);have HZ := Lib.hid (RepM.lst G.out)
    by_cases hk1 : z.kind = 1
    ·have hkb : (z.kind == 1) = true := by simp [hk1]
     rw [if_pos hk1] at HT HLE HPX;obtain ⟨fn, tmps, assign, body, hy, hR⟩ := HY.out (n - 1) _ (nm z.name) _ hJa (by have := HLE.out; simp only [List.length_append, List.length_cons, List.length_nil] at this ⊢; omega);rw [nm_of HNZ.out] at hy;clear hk1 hJa
     gi_wp2
     refine hR.mono ?_;clear hR hy;rintro e W3 (⟨rfl, hJ3, hb3⟩ | ⟨rfl, hx3⟩)
     ·have HB3 := Lib.hid (HKA.out.trans hb3)
      obtain ⟨c0, c1, c2, c3, c4, c5, c6⟩ := (hbx.kp hb3 hD1).cells
      have ih1 := IH.out z.args HSZ.out (n - 1) _ W3 _ (Nat.le_trans hn1 (Nat.le_trans hba.size hb3.1.size)) (Nat.le_trans hD1 (Nat.le_trans hba.size hb3.1.size)) (HK0.out.trans HB3.out) HZ.out hJ3
       (by have := HLE.out; rw [← namesL_length]; simp only [List.length_append, List.length_cons, List.length_nil] at this ⊢; omega)
      clear hb3 hba hbx g0 g1 g2 g3 g4 g5 g6 hkp hJs
      gi_wp2_with ((try refine ⟨hdd _, ?_⟩); gi_at_call 135; refine ih1.mono ?_; clear ih1; rintro e W4 (⟨rfl, hJ4, hb4⟩ | ⟨rfl, q, hq, hx4⟩))
      ·go_roundw
       case rel => exact ⟨k + 1, hl, by go_num, by rw [HT.out]; simpa [List.append_assoc] using hJ4, HB3.out.trans hb4⟩
       case measure => simp [intOf]; omega
      ·go_ret
       refine Or.inr ⟨rfl, namesL (L.take k) ++ (nm z.name :: q), HPX.out _ ?_, by simpa [List.append_assoc] using hx4⟩;obtain ⟨r, hr⟩ := hq;exact ⟨r, by simp [← hr]⟩
     ·gi_wp2
      go_ret
      exact Or.inr ⟨rfl, namesL (L.take k) ++ [nm z.name], HPX.out _ ⟨namesL z.args, rfl⟩, by simpa [List.append_assoc] using hx3⟩
    ·have hkb : (z.kind == 1) = false := by simp [hk1]
     rw [if_neg hk1, List.nil_append] at HT HLE HPX;clear hk1;obtain ⟨c0, c1, c2, c3, c4, c5, c6⟩ := hbx.cells;have ih1 := IH.out z.args HSZ.out (n - 1) _ _ _ (Nat.le_trans hn1 hba.size) (Nat.le_trans hD1 hba.size) (HK0.out.trans HKA.out) HZ.out hJa (by have := HLE.out; rw [← namesL_length]; simp only [List.length_append] at this ⊢; omega);clear hba hbx hkp hJs hJa c0 c1 c2 c3 c4 c5 c6
     gi_wp2
     refine ⟨fun _ h => (by cases h), ?_⟩
     gi_wp2_with ((try refine ⟨hdd _, ?_⟩); gi_at_call 135; refine ih1.mono ?_; clear ih1; rintro e W4 (⟨rfl, hJ4, hb4⟩ | ⟨rfl, q, hq, hx4⟩))
     ·go_roundw
      case rel => exact ⟨k + 1, hl, by go_num, by rw [HT.out]; simpa [List.append_assoc] using hJ4, HKA.out.trans hb4⟩
      case measure => simp [intOf]; omega
     ·go_ret
      exact Or.inr ⟨rfl, namesL (L.take k) ++ q, HPX.out _ hq, by simpa [List.append_assoc] using hx4⟩
   ·obtain rfl : k = L.length := by omega
    rw [List.take_length] at hJs
    gi_wp2
    go_ret
    exact Or.inl ⟨rfl, hJs, hkp.out⟩
end Go.Proofs.YtjmnnjikmmglpaaGreat
