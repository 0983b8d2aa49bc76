/-
  ScAll, ScGoOn, ScRule
-/
import Derived.Test.YtjohcnhiblfbnaaGreatDoorC25
import Derived.Test.YtjohcnhiblfbnaaGreatDoorC21
import Derived.RangeFuncCalls
import Derived.Deep.Cut
namespace Go.Proofs.YtjohcnhiblfbnaaGreatDoor
open Go.RowKit Go.Shelf
attribute [local go_sem] Oper.semAt_some
theorem mem_names {S : Nat → Prop} {w : World} {L : List Tm} {v : Value} (h : RepMs S w L v) {s : ByteArray} (hs : s ∈ varsL L) : (⟨s, repM_name_le h s hs⟩ : Nm) ∈ namesL L :=
 List.mem_map.2 ⟨s, hs, by rw [nm, dif_pos (repM_name_le h s hs)]⟩
theorem of_mem_names {S : Nat → Prop} {w : World} {L : List Tm} {v : Value} (h : RepMs S w L v) {y : Nm} (hy : y ∈ namesL L) : y.1 ∈ varsL L := by
 obtain ⟨s, hs, rfl⟩ := List.mem_map.1 hy
 rw [nm_of (repM_name_le h s hs)]
 exact hs
theorem all_names {S : Nat → Prop} {w : World} {L : List Tm} {v : Value} (h : RepMs S w L v) {l : List ByteArray} (ha : ∀ y ∈ namesL L, inB l y.1 = true) : (varsL L).all (inB l) = true :=
 List.all_eq_true.2 fun _s hs => ha _ (mem_names h hs)
theorem not_all_names {S : Nat → Prop} {w : World} {L : List Tm} {v : Value} (h : RepMs S w L v) {l : List ByteArray} {pre : List Nm} (hp : pre <+: namesL L) (ha : ∃ y ∈ pre, inB l y.1 = false) : (varsL L).all (inB l) = false := by
 obtain ⟨y, hy, he⟩ := ha
 rw [List.all_eq_false]
 exact ⟨y.1, of_mem_names h (hp.subset hy), by rw [he]; decide⟩
set_option maxRecDepth 100000 in
set_option maxHeartbeats 2000000 in
theorem all_in (b n : Nat) (l : List ByteArray) (L : List Tm) (w : World) (a : Option Addr) (len cap : Nat) (hset : SetAt w b n l) (hrep : RepMs (fun k => k < w.heap.size) w L (.slice a len cap)) :
  CallsIn Fence.wide 3 Tryz.prog 95 #[.map (some b), .slice a len cap] w fun e W' => e = .returned (.bool ((varsL L).all (inB l))) ∧ Below w.heap.size w W' := by
 have h1 : 1 ≤ 3 := by omega
 refine callsIn_of_wp_marks Tryz.func95 rfl trivial ?_ rfl
 simp only [Tryz.ntmps95, List.size_toArray, List.length_cons, List.length_nil, Nat.reduceAdd, Nat.reduceSub, Array.replicate_succ, Array.replicate_zero, List.push_toArray, List.append_toArray, List.nil_append, List.cons_append]
 gi_wp2_with ((try refine ⟨trivial, ?_⟩); gi_at_call 134; refine (variables_in Fence.wide _ trivial rfl _ _ _ _).mono ?_; rintro e w' ⟨rfl, rfl⟩)
 have c0 := cell_new1 w (.map (some b)) 130
 have c1 := cell_new1 (w.alloc (.cells #[.map (some b)] 130)) (.bool false) 4
 have c2 := cell_new1 ((w.alloc (.cells #[.map (some b)] 130)).alloc (.cells #[.bool false] 4)) (.slice a len cap) 40
 simp only [World.size_alloc] at c1 c2
 have hB0 : Below w.heap.size w (((w.alloc (.cells #[.map (some b)] 130)).alloc (.cells #[.bool false] 4)).alloc (.cells #[.slice a len cap] 40)) := (((Below.refl _ w).alloc (Nat.le_refl _) _).alloc (by simp) _).alloc (by simp; omega) _
 have d0 := (cell_alloc1 (.cells #[.slice a len cap] 40) (cell_alloc1 (.cells #[.bool false] 4) c0.1))
 have d1 := cell_alloc1 (.cells #[.slice a len cap] 40) c1.1
 have d1f := frozen_alloc1 (.cells #[.slice a len cap] 40) c1.1 c1.2
 have hsz : (((w.alloc (.cells #[.map (some b)] 130)).alloc (.cells #[.bool false] 4)).alloc (.cells #[.slice a len cap] 40)).heap.size = w.heap.size + 3 := by simp
 have c2c := c2.1
 clear c0 c1 c2
 generalize (((w.alloc (.cells #[.map (some b)] 130)).alloc (.cells #[.bool false] 4)).alloc (.cells #[.slice a len cap] 40)) = W3 at *
 refine wpIn_rangeFunc_ownG (F := Fence.wide) (n := 3) rfl h1 (gf := 158) (lb := #[.pointer (some ⟨w.heap.size + 1 + 1, 0, none⟩)]) rfl trivial (enters_of Tryz.func158 (by kernel_rfl) rfl)
  (vars_stops Fence.wide rfl 2 trivial trivial rfl (w.heap.size + 1 + 1) w.heap.size W3.heap.size L _ W3 (by omega) hB0.size (Nat.le_refl _) c2c (RepMs.on (S' := SK w.heap.size W3.heap.size W3) (fun _ h => .inl h) (fun k hk => hB0.block k hk) hrep)) KpD.trans (fun W l o o' hl hW ho _ => KpD.putObj W l o o' (by omega) hW ho) (Below.refl _ _) (fun _ => by rfl)
  (fun pre W => ((∀ y ∈ pre, inB l y.1 = true) ∧ W.cell? ⟨w.heap.size, 0, none⟩ = some (.map (some b)) ∧ W.cell? ⟨w.heap.size + 1, 0, none⟩ = some (.bool false) ∧ W.frozen? ⟨w.heap.size + 1, 0, none⟩ = false) ∧ Below w.heap.size w W)
  (fun c pre W => (c = .ret ∧ (∃ y ∈ pre, inB l y.1 = false) ∧ W.cell? ⟨w.heap.size + 1, 0, none⟩ = some (.bool false)) ∧ Below w.heap.size w W)
  (OwnFrom.and (Own.from (fun s A B row hs hg hr => ⟨hs.1, cell_kept hs.2.1 hg hr, cell_kept hs.2.2.1 hg hr, (frozen_kept hs.2.2.1 hg hr).trans hs.2.2.2⟩) _) (ownFrom_below (Nat.le_refl _) (by omega)))
  (fun c => OwnFrom.and (Own.from (fun s A B row hs hg hr => ⟨hs.1, hs.2.1, cell_kept hs.2.2 hg hr⟩) _) (ownFrom_below (Nat.le_refl _) (by omega)))
  ⟨⟨by simp, d0, d1, d1f⟩, hB0⟩
  (fun x => { tmps := #[.map (some b), .slice a len cap, .pointer (some ⟨w.heap.size, 0, none⟩), undef, .pointer (some ⟨w.heap.size + 1, 0, none⟩), .string x.1, .slice a len cap, .func (.func 158) #[] #[.pointer (some ⟨w.heap.size + 1 + 1, 0, none⟩)], .string x.1, undef, undef, undef, undef], defers := [] }) ?assign ?body ?done ?stop
 case assign =>
  intro l x W K hK
  gi_wp2
  exact hK
 case body =>
  rintro l2 pre x W ⟨⟨hp, hcw, hcr, hfr⟩, hB⟩ _
  have HP := Lib.hid hp
  have hh := has_any b n l x.1 W x.2 (hset.on hB)
  clear hp
  obtain ⟨t, ht⟩ : ∃ t, inB l x.1 = t := ⟨_, rfl⟩
  rw [ht] at hh
  have HT := Lib.hid ht
  clear ht
  have HCW := Lib.hid hcw; have HCR := Lib.hid hcr; have HFR := Lib.hid hfr
  clear hcr hfr
  cases t with
  | true =>
   gi_wp2_with ((try refine ⟨trivial, ?_⟩); gi_at_call 90; refine (CallsIn.inRound l2 (callsIn_wide.2 hh)).mono ?_; clear hh; rintro e W' ⟨rfl, hb⟩)
   have hg := grown_of_below hb
   have hrow : ∀ r, (none : Option Nat) = some r → ∃ o : Obj, W.heap[r]? = some o ∧ o.isCells = false := fun r e => by cases e
   refine ⟨KeepsFrom.of_grownBy hg (fun j e => by cases e), (KpD.refl _ _ _).of_below hb hB.size, ⟨?_, cell_kept HCW.out hg hrow, cell_kept HCR.out hg hrow, (frozen_kept HCR.out hg hrow).trans HFR.out⟩, hB.trans (hb.mono hB.size)⟩
   intro y hy
   rcases List.mem_append.1 hy with hy | hy
   ·exact HP.out y hy
   ·rw [List.mem_singleton.1 hy]; exact HT.out
  | false =>
   gi_wp2_with ((try refine ⟨trivial, ?_⟩); gi_at_call 90; refine (CallsIn.inRound l2 (callsIn_wide.2 hh)).mono ?_; clear hh; rintro e W' ⟨rfl, hb⟩; have hcr := cell_kept HCR.out (grown_of_below hb) (fun r e => by cases e); have hfr := (frozen_kept HCR.out (grown_of_below hb) (fun r e => by cases e)).trans HFR.out)
   exact ⟨(KeepsFrom.of_grownBy (grown_of_below hb) (fun j e => by cases e)).trans ((KeepsOthers.setCell _ _ _).from _), ⟨rfl, ⟨x, List.mem_append.2 (.inr (by simp)), HT.out⟩, World.cell?_setCell_same' _ _ _ (by rw [hcr]; rfl)⟩,
    (hB.trans (hb.mono hB.size)).setCell (p := ⟨w.heap.size + 1, 0, none⟩) (by simp) _⟩
 case done =>
  rintro D ys W hD rfl ⟨⟨hall, _, hcr, hfr⟩, hB⟩ hK
  gi_wp2
  have hK' := (KeepsOthers.setCell W ⟨w.heap.size + 1, 0, none⟩ (.bool true)).same D _ hK rfl
  refine ⟨by simp, .inl ⟨_, _, rfl, run_takeDeferred hK', ?_⟩⟩
  have hc5 := cell_kept (World.cell?_setCell_same' W ⟨w.heap.size + 1, 0, none⟩ (.bool true) (by rw [hcr]; rfl)) (grownBy_putObj' _ D (.deferred none)) (fun r e => by cases e; exact ⟨_, hK', rfl⟩)
  refine ⟨.bool true, ?_, ?_, (hB.setCell (p := ⟨w.heap.size + 1, 0, none⟩) (by simp) _).trans (belowK_b (w := w) (Nat.le_refl _) _ D _ _ (by omega) hK' rfl rfl)⟩
  ·simp [results, Tryz.f95, go_sem, hc5]
  ·rw [all_names hrep hall]
 case stop =>
  rintro D c pre W hD hpre ⟨⟨rfl, hin, hcr⟩, hB⟩ hK
  gi_wp2
  refine ⟨by simp, .inl ⟨_, _, rfl, run_takeDeferred hK, ?_⟩⟩
  have hc5 := cell_kept hcr (grownBy_putObj' _ D (.deferred none)) (fun r e => by cases e; exact ⟨_, hK, rfl⟩)
  refine ⟨.bool false, ?_, ?_, hB.trans (belowK_b (w := w) (Nat.le_refl _) W D _ _ (by omega) hK rfl rfl)⟩
  ·simp [results, Tryz.f95, go_sem, hc5]
  ·rw [not_all_names hrep hpre hin]
theorem all_any (b n : Nat) (l : List ByteArray) (L : List Tm) (S : Nat → Prop) (w : World) (v : Value) (hS : ∀ k, S k → k < w.heap.size) (hset : SetAt w b n l) (hrep : RepMs S w L v) :
  Calls Tryz.prog 95 #[.map (some b), v] w fun e W' => e = .returned (.bool ((varsL L).all (inB l))) ∧ Below w.heap.size w W' := by
 obtain ⟨a, cap, rfl⟩ := SlG.form hrep
 exact callsIn_wide.1 (all_in b n l L w a _ cap hset (RepMs.on hS (fun _ _ => rfl) hrep))
end Go.Proofs.YtjohcnhiblfbnaaGreatDoor
namespace Go.Proofs.YtjohcnhiblfbnaaGreatDoor
open Go.RowKit
def argNames (L : List Tm) : List ByteArray := (L.filter fun t => t.kind == 1).map Tm.name
theorem argNames_take (L : List Tm) {k : Nat} (h : k < L.length) : argNames (L.take (k + 1)) = argNames (L.take k) ++ (if L[k].kind = 1 then [L[k].name] else []) := by
 rw [argNames, List.take_succ_eq_append_getElem h, List.filter_append, List.map_append, ← argNames]
 by_cases hk : L[k].kind = 1
 ·rw [if_pos hk, List.filter_cons, if_pos (by simp [hk])]; rfl
 ·rw [if_neg hk, List.filter_cons, if_neg (by simp [hk])]; rfl
theorem grownT {a b c : World} {row : Option Nat} (h : a.grownBy b row) (k : b.grownBy c row) : a.grownBy c row :=
 ⟨k.os.trans h.os, k.tape.trans h.tape, k.output.trans h.output, Nat.le_trans h.size k.size, fun i hi hne => (k.block i (Nat.lt_of_lt_of_le hi h.size) hne).trans (h.block i hi hne)⟩
theorem grownT_below {a b c : World} {row : Option Nat} (h : a.grownBy b row) (k : Below b.heap.size b c) : a.grownBy c row :=
 grownT h ⟨k.os, k.tape, k.output, k.size, fun i hi _ => k.block i hi⟩
set_option maxRecDepth 100000 in
set_option maxHeartbeats 1000000 in
theorem addArgs_any (b n : Nat) (l : List ByteArray) (L : List Tm) (S : Nat → Prop) (w : World) (v : Value) (hn : n ≤ 100000) (hS : ∀ k, S k → k < w.heap.size ∧ k ≠ b) (hset : SetAt w b n l) (hrep : RepMs S w L v) :
  Calls Tryz.prog 133 #[.map (some b), v] w fun e w' => e = .returned (.tuple #[]) ∧ SetAt w' b (n + L.length) (l ++ argNames L) ∧ w.grownBy w' (some b) := by
 have hlb := SlG.bytes hrep
 have HA := Lib.hid hrep; have HS := Lib.hid hS; have HW := Lib.hid hset
 have hbw := hset.lt
 obtain ⟨f0, f1, rfl⟩ := SlG.form hrep
 clear hrep hS hset
 go_enter Tryz.func133, Tryz.ntmps133
 go_wp2_with fail
 go_loopw [8] (fun i wr => ∃ k : Nat, k ≤ L.length ∧ i = .int .i64 k ∧ Hid (SetAt wr b (n + k) (l ++ argNames (L.take k))) ∧ Hid (w.grownBy wr (some b))) (fun i _ => L.length - (intOf i).toNat)
 case atStart => exact ⟨0, Nat.zero_le _, rfl, by show SetAt _ _ _ _; simpa [argNames] using HW.out, ⟨rfl, rfl, rfl, Nat.le_refl _, fun _ _ _ => rfl⟩⟩
 case round =>
  obtain ⟨k, hk, rfl, hset, hg⟩ := hrel
  by_cases hl : k < L.length
  ·have hA := (RepMs.on (fun _ h => h) (fun j hj => hg.out.block j (HS.out j hj).1 (fun e => (HS.out j hj).2 (Option.some.inj e))) HA.out : RepMs S wr L (.slice f0 L.length f1))
   obtain ⟨-, -, lb, lo, fa, fc, ga, gc, rfl, -, g0, g1, g2, g3, g4, g5, g6, g⟩ := RepMs.at hA k hl
   have HT := Lib.hid (argNames_take L hl)
   have HN := Lib.hid (RepM.bounds g).2
   clear hA g
   generalize L[k] = z at *
   have hba := below_alloc wr (.cells #[.int .i64 z.kind, .string z.name, .int .i64 z.val.kind, .int .i64 z.val.num, .string z.val.text, .slice fa z.val.list.length fc, .slice ga z.args.length gc] 52)
   have hbx := boxM_new wr (.int .i64 z.kind) (.string z.name) (.int .i64 z.val.kind) (.int .i64 z.val.num) (.string z.val.text) (.slice fa z.val.list.length fc) (.slice ga z.args.length gc)
   have HG1 := Lib.hid (grownT_below hg.out hba)
   have HS1 := Lib.hid (hset.out.on hba)
   obtain ⟨e0, e1, e2, e3, e4, e5, e6⟩ := hbx.cells
   clear hba hbx hset hg
   by_cases hkd : z.kind = 1
   ·have hk1 : (z.kind == 1) = true := by simp [hkd]
    rw [if_pos hkd] at HT
    clear hkd
    go_wp2_with fail
    clear g0 g1 g2 g3 g4 g5 g6
    generalize wr.alloc (.cells #[.int .i64 z.kind, .string z.name, .int .i64 z.val.kind, .int .i64 z.val.num, .string z.val.text, .slice fa z.val.list.length fc, .slice ga z.args.length gc] 52) = wa at *
    refine (add_any b (n + k) _ z.name wa (by unfold maxLen; omega) HN.out HS1.out).mono ?_
    rintro e w4 ⟨rfl, hs4, hg4⟩
    have HS4 : Hid (SetAt w4 b (n + (k + 1)) (l ++ argNames (L.take (k + 1)))) := by show SetAt _ _ _ _; rw [HT.out, ← List.append_assoc]; exact hs4
    have HG4 := Lib.hid (grownT HG1.out hg4)
    clear hs4 hg4 e0 e1 e2 e3 e4 e5 e6
    go_wp2_with fail
    go_roundw
    case rel => exact ⟨k + 1, hl, by go_num, HS4, HG4.out⟩
    case measure => simp [intOf]; omega
   ·have hk1 : (z.kind == 1) = false := by simp [hkd]
    rw [if_neg hkd, List.append_nil] at HT
    clear hkd
    go_wp2_with fail
    go_roundw
    case rel => exact ⟨k + 1, hl, by go_num, by rw [HT.out]; exact HS1.out.mono (by omega), HG1.out⟩
    case measure => simp [intOf]; omega
  ·obtain rfl : k = L.length := by omega
   rw [List.take_length] at hset
   go_wp2_with fail
   go_end0
   exact ⟨rfl, hset.out, hg.out⟩
def goArgs (l : List ByteArray) (z : Li) : List ByteArray := if z.kind = 1 then l ++ argNames z.args else l
def goErr (l : List ByteArray) (z : Li) : Int := if (varsL z.args).all (inB (goArgs l z)) = true then (if z.kind = 4 ∧ inB (goArgs l z) z.name = true then 62 else 0) else 61
def goSet (l : List ByteArray) (z : Li) : List ByteArray := if z.kind = 4 then goArgs l z ++ [z.name] else goArgs l z
def GoPost (b n : Nat) (l : List ByteArray) (z : Li) (w : World) (e : Ending) (w' : World) : Prop :=
 e = .returned (.int .i64 (goErr l z)) ∧ w.grownBy w' (some b) ∧ (goErr l z = 0 → SetAt w' b (n + z.args.length + 1) (goSet l z))
theorem BoxLi.grown {w w' : World} {k : Nat} {c0 c1 c2 : Value} (h : BoxLi w k c0 c1 c2) {row : Option Nat} (hg : w.grownBy w' row) (hne : some k ≠ row) : BoxLi w' k c0 c1 c2 := (hg.block k h.lt hne).trans h
set_option maxRecDepth 100000 in
set_option maxHeartbeats 1000000 in
theorem goOn_any (b n : Nat) (l : List ByteArray) (z : Li) (S : Nat → Prop) (w : World) (c0 c1 c2 : Value) (hn : n ≤ 100000) (hlen : z.args.length ≤ 8) (hS : ∀ k, S k → k < w.heap.size ∧ k ≠ b) (hset : SetAt w b n l) (hrep : RepLi S w z c0 c1 c2) :
  Calls Tryz.prog 94 #[.map (some b), .agg #[c0, c1, c2]] w (GoPost b n l z w) := by
 have hbw := hset.lt
 have HR := Lib.hid hrep; have HS := Lib.hid hS; have HW := Lib.hid hset; have HN := Lib.hid hrep.2.2.2.1
 obtain ⟨ga, gc, rfl, rfl, rfl⟩ := RepLi.form hrep
 clear hrep hS hset
 by_cases hk1 : z.kind = 1
 ·have hkb : (z.kind == 1) = true := by simp [hk1]
  have hkc : (z.kind == 4) = false := by simp [hk1]
  have HGA : Hid (goArgs l z = l ++ argNames z.args) := by show _ = _; rw [goArgs, if_pos hk1]
  have HE : Hid (goErr l z = if (varsL z.args).all (inB (l ++ argNames z.args)) = true then 0 else 61) := by show _ = _; rw [goErr, HGA.out, if_neg (show ¬ (z.kind = 4 ∧ _) from fun h => by omega)]
  have HGS : Hid (goSet l z = l ++ argNames z.args) := by show _ = _; rw [goSet, if_neg (by omega), HGA.out]
  clear hk1
  go_enter Tryz.func94, Tryz.ntmps94
  go_wp2_with fail
  have x0 := boxLi_new w (.int .i64 z.kind) (.string z.name) (.slice ga z.args.length gc)
  have d0 := below_alloc w (.cells #[.int .i64 z.kind, .string z.name, .slice ga z.args.length gc] 46)
  generalize w.alloc (.cells #[.int .i64 z.kind, .string z.name, .slice ga z.args.length gc] 46) = w1 at *
  have X1 := Lib.hid x0; have HG1 := Lib.hid (grownT_below (World.grownBy.refl w (some b)) d0); have S1 := Lib.hid (HW.out.on d0)
  have HB1 := Lib.hid d0
  have R1 := Lib.hid (RepMs.on (S' := fun k => k < w.heap.size ∧ k ≠ b) HS.out (fun k hk => d0.block k (HS.out k hk).1) HR.out.2.2.2.2)
  have Z1 := Lib.hid d0.size
  clear d0 x0 HR HS HW
  obtain ⟨e0, e1, e2⟩ := X1.out.cells
  go_wp2_with fail
  refine (addArgs_any b n l z.args (fun k => k < w.heap.size ∧ k ≠ b) w1 _ hn (fun k hk => ⟨Nat.lt_of_lt_of_le hk.1 Z1.out, hk.2⟩) S1.out R1.out).mono ?_
  rintro e w2 ⟨rfl, hs, hg⟩
  have X2 := Lib.hid (X1.out.grown hg (by intro h; cases h; omega)); have HG2 := Lib.hid (grownT HG1.out hg); have S2 := Lib.hid hs; have Z2 := Lib.hid hg.size
  have R2 := Lib.hid (RepMs.on (fun _ h => h) (fun k (hk : k < w.heap.size ∧ k ≠ b) => hg.block k (Nat.lt_of_lt_of_le hk.1 Z1.out) (fun e => hk.2 (Option.some.inj e))) R1.out)
  clear hs hg e0 e1 e2 X1 HG1 S1 R1
  obtain ⟨e0, e1, e2⟩ := X2.out.cells
  go_wp2_with fail
  refine (all_any b (n + z.args.length) (l ++ argNames z.args) z.args (fun k => k < w.heap.size ∧ k ≠ b) w2 _ (fun k hk => Nat.lt_of_lt_of_le hk.1 (Nat.le_trans Z1.out Z2.out)) S2.out R2.out).mono ?_
  rintro e w3 ⟨rfl, hb⟩
  have X2' := Lib.hid (X2.out.on hb); have HG2' := Lib.hid (grownT_below HG2.out hb); have S2' := Lib.hid (S2.out.on hb)
  clear hb
  clear e0 e1 e2
  obtain ⟨e0, e1, e2⟩ := X2'.out.cells
  cases hc : (varsL z.args).all (inB (l ++ argNames z.args)) with
  | false =>
   have HF : Hid (goErr l z = 61) := by show _ = _; rw [HE.out, hc]; rfl
   clear hc
   go_wp2_with fail
   go_ret
   exact ⟨ret_i HF.out.symm, HG2'.out, fun h => by rw [HF.out] at h; cases h⟩
  | true =>
   have HF : Hid (goErr l z = 0) := by show _ = _; rw [HE.out, hc]; rfl
   clear hc
   go_wp2_with fail
   go_ret
   exact ⟨ret_i HF.out.symm, HG2'.out, fun _ => by rw [HGS.out]; exact S2'.out.mono (by omega)⟩
 ·have hkb : (z.kind == 1) = false := by simp [hk1]
  have HGA : Hid (goArgs l z = l) := by show _ = _; rw [goArgs, if_neg hk1]
  by_cases hk4 : z.kind = 4
  ·have hkc : (z.kind == 4) = true := by simp [hk4]
   have HE : Hid (goErr l z = if (varsL z.args).all (inB l) = true then (if inB l z.name = true then 62 else 0) else 61) := by show _ = _; rw [goErr, HGA.out]; simp only [hk4, true_and]
   have HGS : Hid (goSet l z = l ++ [z.name]) := by show _ = _; rw [goSet, if_pos hk4, HGA.out]
   clear hk1 hk4
   go_enter Tryz.func94, Tryz.ntmps94
   go_wp2_with fail
   have x0 := boxLi_new w (.int .i64 z.kind) (.string z.name) (.slice ga z.args.length gc)
   have d0 := below_alloc w (.cells #[.int .i64 z.kind, .string z.name, .slice ga z.args.length gc] 46)
   generalize w.alloc (.cells #[.int .i64 z.kind, .string z.name, .slice ga z.args.length gc] 46) = w1 at *
   have X1 := Lib.hid x0; have HG1 := Lib.hid (grownT_below (World.grownBy.refl w (some b)) d0); have S1 := Lib.hid (HW.out.on d0)
   have HB1 := Lib.hid d0
   have R1 := Lib.hid (RepMs.on (S' := fun k => k < w.heap.size ∧ k ≠ b) HS.out (fun k hk => d0.block k (HS.out k hk).1) HR.out.2.2.2.2)
   have Z1 := Lib.hid d0.size
   clear d0 x0 HR HS HW
   obtain ⟨e0, e1, e2⟩ := X1.out.cells
   go_wp2_with fail
   refine (all_any b (n) (l) z.args (fun k => k < w.heap.size ∧ k ≠ b) w1 _ (fun k hk => Nat.lt_of_lt_of_le hk.1 Z1.out) S1.out R1.out).mono ?_
   rintro e w3 ⟨rfl, hb⟩
   have X1' := Lib.hid (X1.out.on hb); have HG1' := Lib.hid (grownT_below HG1.out hb); have S1' := Lib.hid (S1.out.on hb)
   clear hb
   clear e0 e1 e2
   obtain ⟨e0, e1, e2⟩ := X1'.out.cells
   cases hc : (varsL z.args).all (inB l) with
   | false =>
    have HF : Hid (goErr l z = 61) := by show _ = _; rw [HE.out, hc]; rfl
    clear hc
    go_wp2_with fail
    go_ret
    exact ⟨ret_i HF.out.symm, HG1'.out, fun h => by rw [HF.out] at h; cases h⟩
   | true =>
    have HE2 : Hid (goErr l z = if inB l z.name = true then 62 else 0) := by show _ = _; rw [HE.out, hc]; rfl
    clear hc
    go_wp2_with fail
    refine (has_any b n l z.name w3 HN.out S1'.out).mono ?_
    rintro e w4 ⟨rfl, hb⟩
    have X4 := Lib.hid (X1'.out.on hb); have HG4 := Lib.hid (grownT_below HG1'.out hb); have S4 := Lib.hid (S1'.out.on hb)
    clear hb e0 e1 e2
    obtain ⟨e0, e1, e2⟩ := X4.out.cells
    cases hc : inB l z.name with
    | true =>
     have HF : Hid (goErr l z = 62) := by show _ = _; rw [HE2.out, hc]; rfl
     clear hc
     go_wp2_with fail
     go_ret
     exact ⟨ret_i HF.out.symm, HG4.out, fun h => by rw [HF.out] at h; cases h⟩
    | false =>
     have HF : Hid (goErr l z = 0) := by show _ = _; rw [HE2.out, hc]; rfl
     clear hc
     go_wp2_with fail
     refine (add_any b n l z.name w4 (by unfold maxLen; omega) HN.out S4.out).mono ?_
     rintro e w5 ⟨rfl, hs5, hg5⟩
     have HG5 := Lib.hid (grownT HG4.out hg5); have S5 := Lib.hid hs5
     clear hs5 hg5 e0 e1 e2
     go_wp2_with fail
     go_ret
     exact ⟨ret_i HF.out.symm, HG5.out, fun _ => by rw [HGS.out]; exact S5.out.mono (by omega)⟩
  ·have hkc : (z.kind == 4) = false := by simp [hk4]
   have HE : Hid (goErr l z = if (varsL z.args).all (inB l) = true then 0 else 61) := by show _ = _; rw [goErr, HGA.out, if_neg (show ¬ (z.kind = 4 ∧ _) from fun h => hk4 h.1)]
   have HGS : Hid (goSet l z = l) := by show _ = _; rw [goSet, if_neg hk4, HGA.out]
   clear hk1 hk4
   go_enter Tryz.func94, Tryz.ntmps94
   go_wp2_with fail
   have x0 := boxLi_new w (.int .i64 z.kind) (.string z.name) (.slice ga z.args.length gc)
   have d0 := below_alloc w (.cells #[.int .i64 z.kind, .string z.name, .slice ga z.args.length gc] 46)
   generalize w.alloc (.cells #[.int .i64 z.kind, .string z.name, .slice ga z.args.length gc] 46) = w1 at *
   have X1 := Lib.hid x0; have HG1 := Lib.hid (grownT_below (World.grownBy.refl w (some b)) d0); have S1 := Lib.hid (HW.out.on d0)
   have HB1 := Lib.hid d0
   have R1 := Lib.hid (RepMs.on (S' := fun k => k < w.heap.size ∧ k ≠ b) HS.out (fun k hk => d0.block k (HS.out k hk).1) HR.out.2.2.2.2)
   have Z1 := Lib.hid d0.size
   clear d0 x0 HR HS HW
   obtain ⟨e0, e1, e2⟩ := X1.out.cells
   go_wp2_with fail
   refine (all_any b (n) (l) z.args (fun k => k < w.heap.size ∧ k ≠ b) w1 _ (fun k hk => Nat.lt_of_lt_of_le hk.1 Z1.out) S1.out R1.out).mono ?_
   rintro e w3 ⟨rfl, hb⟩
   have X1' := Lib.hid (X1.out.on hb); have HG1' := Lib.hid (grownT_below HG1.out hb); have S1' := Lib.hid (S1.out.on hb)
   clear hb
   clear e0 e1 e2
   obtain ⟨e0, e1, e2⟩ := X1'.out.cells
   cases hc : (varsL z.args).all (inB l) with
   | false =>
    have HF : Hid (goErr l z = 61) := by show _ = _; rw [HE.out, hc]; rfl
    clear hc
    go_wp2_with fail
    go_ret
    exact ⟨ret_i HF.out.symm, HG1'.out, fun h => by rw [HF.out] at h; cases h⟩
   | true =>
    have HF : Hid (goErr l z = 0) := by show _ = _; rw [HE.out, hc]; rfl
    clear hc
    go_wp2_with fail
    go_ret
    exact ⟨ret_i HF.out.symm, HG1'.out, fun _ => by rw [HGS.out]; exact S1'.out.mono (by omega)⟩
end Go.Proofs.YtjohcnhiblfbnaaGreatDoor
namespace Go.Proofs.YtjohcnhiblfbnaaGreatDoor
open Go.RowKit
def goAll : List ByteArray → List Li → Int × List ByteArray
 | l, [] => (0, l)
 | l, z :: r => if goErr l z = 0 then goAll (goSet l z) r else (goErr l z, l)
def ruleErr (ds : List De) (r : Ru) : Int :=
 if (arityL ds r.head == (r.args.length : Int)) = true ∧ r.body.all (bodyLiB ds) = true then
  (if (goAll [] r.body).1 = 0 then (if (varsL r.args).all (inB (goAll [] r.body).2) = true then 0 else 61) else (goAll [] r.body).1)
 else 60
theorem li_few {z : Li} (h : liB z = true) : z.args.length ≤ 8 := by
 unfold liB at h
 split at h
 ·simp only [atomB, Bool.and_eq_true] at h
  have := (listB_bounds h.2.1).2.1
  omega
 ·split at h
  ·simp only [atomB, Bool.and_eq_true] at h
   have := (listB_bounds h.2.1).2.1
   omega
  ·split at h
   ·simp only [Bool.and_eq_true] at h
    have := (listB_bounds h.2).2.1
    omega
   ·split at h
    ·simp only [Bool.and_eq_true] at h
     have := (listB_bounds h.2).2.1
     omega
    ·cases h
theorem ru_few {r : Ru} (h : ruB r = true) : r.body.length ≤ 8 ∧ ∀ z ∈ r.body, z.args.length ≤ 8 := by
 simp only [ruB, Bool.and_eq_true] at h
 have hb := listB_bounds h.2.2.2
 exact ⟨by omega, fun z hz => li_few (hb.2.2 z hz)⟩
set_option maxRecDepth 100000 in
set_option maxHeartbeats 2000000 in
theorem checkRule_any (p : Pr) (r : Ru) (S : Nat → Prop) (w : World) (c0 c1 c2 q0 q1 q2 q3 q4 q5 : Value) (hS : ∀ k, S k → k < w.heap.size) (hp : RepPr S w p c0 c1 c2) (hr : RepRu S w r q0 q1 q2 q3 q4 q5) (hru : ruB r = true) :
  Calls Tryz.prog 51 #[.agg #[c0, c1, c2], .agg #[q0, q1, q2, q3, q4, q5]] w fun e w' => e = .returned (.int .i64 (ruleErr p.decls r)) ∧ Below w.heap.size w w' := by
 have HFEW := Lib.hid (ru_few hru)
 have HP := Lib.hid hp; have HR := Lib.hid hr; have HS := Lib.hid hS
 obtain ⟨f0, f1, rfl⟩ := SlG.form hp.1
 obtain ⟨f2, f3, rfl⟩ := SlG.form hp.2.1
 obtain ⟨f4, f5, rfl⟩ := SlG.form hp.2.2
 obtain ⟨xa, xc, ya, yc, rfl, rfl, rfl, rfl, rfl, rfl⟩ := RepRu.form hr
 clear hp hr hS hru
 have hmm := @run_makeMap Tryz.prog
 go_enter Tryz.func51, Tryz.ntmps51
 go_wp2_with fail
 have x0 := boxPr_new w (.slice f0 p.decls.length f1) (.slice f2 p.facts.length f3) (.slice f4 p.rules.length f5)
 have d0 := below_alloc w (.cells #[.slice f0 p.decls.length f1, .slice f2 p.facts.length f3, .slice f4 p.rules.length f5] 26)
 have s0 := World.size_alloc w (.cells #[.slice f0 p.decls.length f1, .slice f2 p.facts.length f3, .slice f4 p.rules.length f5] 26)
 generalize w.alloc (.cells #[.slice f0 p.decls.length f1, .slice f2 p.facts.length f3, .slice f4 p.rules.length f5] 26) = w1 at *
 have x1 := boxRu_new w1 (.string r.label) (.string r.head) (.slice xa r.args.length xc) (.string r.agg) (.int .i64 r.at') (.slice ya r.body.length yc)
 have d1 := below_alloc w1 (.cells #[.string r.label, .string r.head, .slice xa r.args.length xc, .string r.agg, .int .i64 r.at', .slice ya r.body.length yc] 43)
 generalize w1.alloc (.cells #[.string r.label, .string r.head, .slice xa r.args.length xc, .string r.agg, .int .i64 r.at', .slice ya r.body.length yc] 43) = w2 at *
 rw [s0] at x1
 have HB2 := Lib.hid (Below.step d0 d1)
 have X0 := Lib.hid (x0.on d1); have X1 := Lib.hid x1
 have HP2 := Lib.hid (RepPr.on (S' := fun k => k < w.heap.size) HS.out (fun k hk => HB2.out.block k (HS.out k hk)) HP.out)
 have HR2 := Lib.hid (RepRu.on (S' := fun k => k < w.heap.size) HS.out (fun k hk => HB2.out.block k (HS.out k hk)) HR.out)
 clear x0 x1 d0 d1 s0 HP HR HS
 obtain ⟨p0, p1, p2⟩ := X0.out.cells
 obtain ⟨q0, q1, q2, q3, q4, q5⟩ := X1.out.cells
 go_wp2_with fail
 refine (fits_any p r.head (r.args.length : Int) (fun k => k < w.heap.size) w2 _ _ _ (fun k hk => Nat.lt_of_lt_of_le hk HB2.out.size) HP2.out).mono ?_
 rintro e w3 ⟨rfl, hb⟩
 have HB3 := Lib.hid (Below.step HB2.out hb)
 have X03 := Lib.hid (X0.out.on hb); have X13 := Lib.hid (X1.out.on hb)
 have HP3 := Lib.hid (RepPr.on (fun _ h => h) (fun k (hk : k < w.heap.size) => hb.block k (Nat.lt_of_lt_of_le hk HB2.out.size)) HP2.out)
 have HR3 := Lib.hid (RepRu.on (fun _ h => h) (fun k (hk : k < w.heap.size) => hb.block k (Nat.lt_of_lt_of_le hk HB2.out.size)) HR2.out)
 clear hb p0 p1 p2 q0 q1 q2 q3 q4 q5 X0 X1 HP2 HR2
 obtain ⟨p0, p1, p2⟩ := X03.out.cells
 obtain ⟨q0, q1, q2, q3, q4, q5⟩ := X13.out.cells
 cases hc1 : (arityL p.decls r.head == (r.args.length : Int)) with
 | false =>
  have HF : Hid (ruleErr p.decls r = 60) := by show _ = _; rw [ruleErr, hc1, if_neg (fun h => by cases h.1)]
  clear hc1
  go_wp2_with fail
  go_ret
  exact ⟨ret_i HF.out.symm, HB3.out⟩
 | true =>
  have HC1 := Lib.hid hc1
  clear hc1
  go_wp2_with fail
  refine (bodyFits_any p r.body (fun k => k < w.heap.size) w3 _ _ _ _ (fun k hk => Nat.lt_of_lt_of_le hk HB3.out.size) HP3.out HR3.out.2.2.2.2.2.2.2.2.2).mono ?_
  rintro e w4 ⟨rfl, hb⟩
  have HB4 := Lib.hid (Below.step HB3.out hb)
  have X14 := Lib.hid (X13.out.on hb)
  have HR4 := Lib.hid (RepRu.on (fun _ h => h) (fun k (hk : k < w.heap.size) => hb.block k (Nat.lt_of_lt_of_le hk HB3.out.size)) HR3.out)
  clear hb p0 p1 p2 q0 q1 q2 q3 q4 q5 X03 X13 HP3 HR3
  obtain ⟨q0, q1, q2, q3, q4, q5⟩ := X14.out.cells
  cases hc2 : r.body.all (bodyLiB p.decls) with
  | false =>
   have HF : Hid (ruleErr p.decls r = 60) := by show _ = _; rw [ruleErr, hc2, if_neg (fun h => by cases h.2)]
   clear hc2
   go_wp2_with fail
   go_ret
   exact ⟨ret_i HF.out.symm, HB4.out⟩
  | true =>
   have HE : Hid (ruleErr p.decls r = if (goAll [] r.body).1 = 0 then (if (varsL r.args).all (inB (goAll [] r.body).2) = true then 0 else 61) else (goAll [] r.body).1) := by show _ = _; rw [ruleErr, if_pos ⟨HC1.out, hc2⟩]
   clear hc2 HC1
   go_upto_region 4 with fail
   have hs5 := setAt_new w4
   have hd5 := below_alloc w4 (.map #[] 0)
   generalize w4.alloc (.map #[] 0) = w5 at *
   obtain ⟨b, hb⟩ : ∃ b, w4.heap.size = b := ⟨_, rfl⟩
   have HW4 := Lib.hid (show w.heap.size ≤ b by rw [← hb]; exact HB4.out.size)
   have HX15 := Lib.hid (X14.out.on hd5)
   have HLB := Lib.hid (show w.heap.size + 1 < b by rw [← hb]; exact X14.out.lt)
   have HB5 := Lib.hid (Below.step HB4.out hd5)
   have HR5 := Lib.hid (RepRu.on (fun _ h => h) (fun k (hk : k < w.heap.size) => hd5.block k (Nat.lt_of_lt_of_le hk HB4.out.size)) HR4.out)
   rw [hb] at hs5 ⊢
   have HS5 := Lib.hid hs5
   clear hs5 hd5 hb X14 HR4 hmm q0 q1 q2 q3 q4 q5
   obtain ⟨q0, q1, q2, q3, q4, q5⟩ := HX15.out.cells
   have hlb := SlG.bytes HR5.out.2.2.2.2.2.2.2.2.2
   go_wp2_with fail
   clear q0 q1 q2 q3 q4 q5
   go_loopw [28] (fun i wr => ∃ (k : Nat) (l : List ByteArray), k ≤ r.body.length ∧ i = .int .i64 k ∧ Hid (goAll [] r.body = goAll l (r.body.drop k)) ∧ Hid (SetAt wr b (9 * k) l) ∧ Hid (Below b w5 wr)) (fun i _ => r.body.length - (intOf i).toNat)
   case atStart => exact ⟨0, [], Nat.zero_le _, rfl, rfl, HS5.out, Below.refl _ _⟩
   case round =>
    obtain ⟨k, l, hk, rfl, hrec, hset, hbel⟩ := hrel
    have hk8 := HFEW.out.1
    have hsz : b < wr.heap.size := hset.out.lt
    by_cases hl : k < r.body.length
    ·have hA := (RepLis.on (fun _ h => h) (fun j (hj : j < w.heap.size) => hbel.out.block j (Nat.lt_of_lt_of_le hj HW4.out)) HR5.out.2.2.2.2.2.2.2.2.2 : RepLis (fun k => k < w.heap.size) wr r.body (.slice ya r.body.length yc))
     obtain ⟨-, -, lb, lo, ga, gc, rfl, hSb, g0, g1, g2, g⟩ := RepLis.at hA k hl
     have HD := Lib.hid (List.drop_eq_getElem_cons hl)
     have HA8 := Lib.hid (HFEW.out.2 _ (List.getElem_mem hl))
     have G := Lib.hid g
     clear g hSb hA
     generalize r.body[k] = z at *
     have hba := below_alloc wr (.cells #[.int .i64 z.kind, .string z.name, .slice ga z.args.length gc] 46)
     have hbx := boxLi_new wr (.int .i64 z.kind) (.string z.name) (.slice ga z.args.length gc)
     have hws : w.heap.size ≤ wr.heap.size := Nat.le_trans HW4.out (Nat.le_of_lt hsz)
     have HZ := Lib.hid (RepLi.on (S' := fun k => k < w.heap.size) (fun _ h => h) (fun j hj => hba.block j (Nat.lt_of_lt_of_le hj hws)) G.out)
     have HB := Lib.hid (hbel.out.trans (hba.mono (Nat.le_of_lt hsz)))
     have HS1 := Lib.hid (hset.out.on hba)
     have HWS := Lib.hid (Nat.le_trans hws hba.size)
     obtain ⟨e0, e1, e2⟩ := hbx.cells
     clear hba hbx hset hbel hws
     go_wp2_with fail
     clear g0 g1 g2
     generalize wr.alloc (.cells #[.int .i64 z.kind, .string z.name, .slice ga z.args.length gc] 46) = wa at *
     refine (goOn_any b (9 * k) l z (fun k => k < w.heap.size) wa _ _ _ (by omega) HA8.out (fun k hk => ⟨Nat.lt_of_lt_of_le hk HWS.out, by have := HW4.out; omega⟩) HS1.out HZ.out).mono ?_
     rintro e w6 ⟨rfl, hg6, hs6⟩
     have HB6 := Lib.hid (HB.out.grown hg6 (Nat.le_of_lt HS1.out.lt) (fun j e => by cases e; exact Nat.le_refl _))
     have HS6 := Lib.hid hs6
     clear hg6 hs6 e0 e1 e2
     by_cases hz : goErr l z = 0
     ·have HS7 : Hid (SetAt w6 b (9 * (k + 1)) (goSet l z)) := (HS6.out hz).mono (by have := HA8.out; omega)
      have HF : Hid (goAll [] r.body = goAll (goSet l z) (r.body.drop (k + 1))) := by show _ = _; rw [hrec.out, HD.out, goAll, if_pos hz]
      rw [hz]
      clear hz HS6
      go_wp2_with fail
      go_roundw
      case rel => exact ⟨k + 1, _, hl, by go_num, HF, HS7, HB6.out⟩
      case measure => simp [intOf]; omega
     ·have HF : Hid (ruleErr p.decls r = goErr l z) := by
       show _ = _
       have h1 : goAll [] r.body = (goErr l z, l) := by rw [hrec.out, HD.out, goAll, if_neg hz]
       rw [HE.out, h1, if_neg hz]
      obtain ⟨g, hg⟩ : ∃ g, goErr l z = g := ⟨_, rfl⟩
      rw [hg] at hz ⊢
      have HG := Lib.hid hg
      have hz1 : (g == 0) = false := by simp [hz]
      clear hz hg HS6
      go_wp2_with fail
      go_ret
      exact ⟨ret_i (by rw [HF.out, HG.out]), HB5.out.trans (HB6.out.mono HW4.out)⟩
    ·have HG : Hid (goAll [] r.body = (0, l)) := by show _ = _; rw [hrec.out, List.drop_of_length_le (by omega), goAll]
     have HE2 : Hid (ruleErr p.decls r = if (varsL r.args).all (inB l) = true then 0 else 61) := by show _ = _; rw [HE.out, HG.out]; simp
     have X16 : BoxRu wr (w.heap.size + 1) _ _ _ _ _ _ := (hbel.out.block (w.heap.size + 1) HLB.out).trans HX15.out
     obtain ⟨q0, q1, q2, q3, q4, q5⟩ := X16.cells
     have HR6 := Lib.hid (RepRu.on (fun _ h => h) (fun j (hj : j < w.heap.size) => hbel.out.block j (Nat.lt_of_lt_of_le hj HW4.out)) HR5.out)
     have HX16 := Lib.hid X16
     clear X16
     go_wp2_with fail
     refine (all_any b (9 * k) l r.args (fun k => k < w.heap.size) wr _ (fun j hj => by have := HW4.out; omega) hset.out HR6.out.2.2.2.2.2.2.2.2.1).mono ?_
     rintro e w7 ⟨rfl, hb7⟩
     have HB7 := Lib.hid (HB5.out.trans ((hbel.out.trans (hb7.mono (Nat.le_of_lt hsz))).mono HW4.out))
     clear hb7 q0 q1 q2 q3 q4 q5
     cases hc : (varsL r.args).all (inB l) with
     | false =>
      have HF : Hid (ruleErr p.decls r = 61) := by show _ = _; rw [HE2.out, hc]; rfl
      clear hc
      go_wp2_with fail
      go_ret
      exact ⟨ret_i HF.out.symm, HB7.out⟩
     | true =>
      have HF : Hid (ruleErr p.decls r = 0) := by show _ = _; rw [HE2.out, hc]; rfl
      clear hc
      go_wp2_with fail
      go_ret
      exact ⟨ret_i HF.out.symm, HB7.out⟩
end Go.Proofs.YtjohcnhiblfbnaaGreatDoor
