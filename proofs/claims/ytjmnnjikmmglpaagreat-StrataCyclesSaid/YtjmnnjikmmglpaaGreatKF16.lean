/-
  ScSeq, ScAll, ScGoOn
-/
import Derived.Test.YtjmnnjikmmglpaaGreatKF15
import Derived.RangeFuncWrites
import Derived.RangeFuncCalls
namespace Go.Proofs.YtjmnnjikmmglpaaGreat
open Go.RowKit Go.Shelf
attribute [local go_sem] Oper.semAt_some
set_option maxRecDepth 100000 in
set_option maxHeartbeats 1000000 in
theorem vars1_in (F : Fence) (hd : F.depth = none) (n : Nat) (h49 : F.fn 134) (h50 : F.fn 135) (hro : F.round = none) (l Bt n₀ D : Nat) (W0 : World) (L : List Tm) (v : Value) (J Jx : List Nm → World → Prop) (hJ : ∀ s W o, J s W → J s (W.alloc o))
  (hY : ∀ pre x W, J pre W → pre.length < (namesL L).length → YieldAt F (n - 1) Tryz.prog l #[.string x.1] W fun e W' =>
   (e = .returned (.bool true) ∧ J (pre ++ [x]) W' ∧ KpD n₀ D W W') ∨ (e = .returned (.bool false) ∧ Jx (pre ++ [x]) W'))
  (W : World) (hn0 : n₀ ≤ W.heap.size) (hD : D ≤ W.heap.size) (hBt : W.cell? ⟨Bt, 0, none⟩ = some v) (hk0 : KpD n₀ D W0 W) (hrep : RepMs (SK n₀ D W0) W0 L v) (h0 : J [] W) :
  CallsIn F n Tryz.prog 134 #[.func (.yield l) #[] #[], .pointer (some ⟨Bt, 0, none⟩)] W fun e W' => (∃ v, e = .returned v) ∧
   ((∃ ys, ys = namesL L ∧ J ys W') ∨ (∃ pre, pre <+: namesL L ∧ Jx pre W')) := by
 have hdd : ∀ k : Nat, (F.depth.isSome = true → 1 ≤ k) := fun k h => by rw [hd] at h; cases h
 have hp := walk_inside F hd h50 hro l n₀ D (namesL L).length W0 J Jx hJ (fun m pre x W hj hl => yieldAt_anyDepth hd m (hY pre x W hj hl)) _ L (Nat.lt_succ_self _) (n - 1) [] W v hn0 hD hk0 hrep h0 (by rw [namesL_length]; simp);clear hY hJ h0 hrep hk0;refine callsIn_of_wp Tryz.func134 rfl h49 ?_ hro;simp only [Tryz.ntmps134, List.size_toArray, List.length_cons, List.length_nil, Nat.reduceAdd, Nat.reduceSub, Array.replicate_succ, Array.replicate_zero, List.push_toArray, List.append_toArray, List.nil_append, List.cons_append]
 gi_wp2_with ((try refine ⟨hdd _, ?_⟩); gi_at_call 135; refine hp.mono ?_; clear hp; rintro e W1 (⟨rfl, hJ1, _⟩ | ⟨rfl, q, hq, hx⟩))
 ·go_end0
  exact ⟨⟨_, rfl⟩, .inl ⟨_, rfl, by simpa using hJ1⟩⟩
 ·go_end0
  exact ⟨⟨_, rfl⟩, .inr ⟨q, hq, by simpa using hx⟩⟩
set_option maxHeartbeats 1000000 in
theorem variables_in (F : Fence) (n : Nat) (h32 : F.fn 107) (hro : F.round = none) (a : Option Addr) (len cap : Nat) (w : World) :
  CallsIn F n Tryz.prog 107 #[.slice a len cap] w fun e w' => e = .returned (.func (.func 134) #[] #[.pointer (some ⟨w.heap.size, 0, none⟩)]) ∧ w' = w.alloc (.cells #[.slice a len cap] 44) := by
 refine callsIn_of_wp Tryz.func107 rfl h32 ?_ hro;simp only [Tryz.ntmps107, List.size_toArray, List.length_cons, List.length_nil, Nat.reduceAdd, Nat.reduceSub, Array.replicate_succ, Array.replicate_zero, List.push_toArray, List.append_toArray, List.nil_append, List.cons_append]
 gi_wp2
 go_ret
 exact ⟨rfl, rfl⟩
theorem vars_stops (F : Fence) (hd : F.depth = none) (n : Nat) (h49 : F.fn 134) (h50 : F.fn 135) (hro : F.round = none) (Bt n₀ D : Nat) (L : List Tm) (v : Value) (w : World) (hBt : Bt < w.heap.size) (hn0 : n₀ ≤ w.heap.size) (hD : D ≤ w.heap.size)
  (hc : w.cell? ⟨Bt, 0, none⟩ = some v) (hrep : RepMs (SK n₀ D w) w L v) :
  SeqStopsK F n Tryz.prog 134 #[.pointer (some ⟨Bt, 0, none⟩)] (fun x : Nm => #[Value.string x.1]) (KpD n₀ D) (fun ys => ys = namesL L) (fun pre => pre <+: namesL L) (namesL L).length w := fun l J Jx W hW hAJ _ hY h0 =>
 vars1_in F hd n h49 h50 hro l Bt n₀ D w L v J Jx (fun s W o hj => hAJ s W _ none hj (World.grownBy_alloc W o none) (fun r e => by cases e)) hY W (Nat.le_trans hn0 hW.size) (Nat.le_trans hD hW.size) ((hW.cell (p := ⟨Bt, 0, none⟩) hBt).trans hc)
  ((KpD.refl n₀ D w).of_below hW hn0) hrep h0
theorem cell_of_box {W : World} {B : Nat} {v : Value} {t : TypeId} (h : W.heap[B]? = some (.cells #[v] t (0, 0))) : W.cell? ⟨B, 0, none⟩ = some v ∧ W.frozen? ⟨B, 0, none⟩ = false := by
 constructor <;> simp [World.cell?, World.frozen?, h]
theorem cell_new1 (W : World) (v : Value) (t : TypeId) : (W.alloc (.cells #[v] t)).cell? ⟨W.heap.size, 0, none⟩ = some v ∧ (W.alloc (.cells #[v] t)).frozen? ⟨W.heap.size, 0, none⟩ = false :=
 cell_of_box (World.alloc_heap_new W _)
theorem cell_alloc1 {W : World} {a : Addr} {v : Value} (o : Obj) (h : W.cell? a = some v) : (W.alloc o).cell? a = some v := cell_kept h (World.grownBy_alloc W o none) (fun r e => by cases e)
theorem frozen_alloc1 {W : World} {a : Addr} {v : Value} (o : Obj) (h : W.cell? a = some v) (hf : W.frozen? a = false) : (W.alloc o).frozen? a = false := (frozen_kept h (World.grownBy_alloc W o none) (fun r e => by cases e)).trans hf
end Go.Proofs.YtjmnnjikmmglpaaGreat
namespace Go.Proofs.YtjmnnjikmmglpaaGreat
open Go.RowKit Go.Shelf
attribute [local go_sem] Oper.semAt_some
theorem mem_names {S : Nat → Prop} {w : World} {L : List Tm} {v : Value} (h : RepMs S w L v) {s : ByteArray} (hs : s ∈ varsL L) : (⟨s, repM_name_le h s hs⟩ : Nm) ∈ namesL L :=
 List.mem_map.2 ⟨s, hs, by rw [nm, dif_pos (repM_name_le h s hs)]⟩
theorem of_mem_names {S : Nat → Prop} {w : World} {L : List Tm} {v : Value} (h : RepMs S w L v) {y : Nm} (hy : y ∈ namesL L) : y.1 ∈ varsL L := by
 obtain ⟨s, hs, rfl⟩ := List.mem_map.1 hy;rw [nm_of (repM_name_le h s hs)];exact hs
theorem all_names {S : Nat → Prop} {w : World} {L : List Tm} {v : Value} (h : RepMs S w L v) {l : List ByteArray} (ha : ∀ y ∈ namesL L, inB l y.1 = true) : (varsL L).all (inB l) = true :=
 List.all_eq_true.2 fun _s hs => ha _ (mem_names h hs)
theorem not_all_names {S : Nat → Prop} {w : World} {L : List Tm} {v : Value} (h : RepMs S w L v) {l : List ByteArray} {pre : List Nm} (hp : pre <+: namesL L) (ha : ∃ y ∈ pre, inB l y.1 = false) : (varsL L).all (inB l) = false := by
 obtain ⟨y, hy, he⟩ := ha;rw [List.all_eq_false];exact ⟨y.1, of_mem_names h (hp.subset hy), by rw [he]; decide⟩
set_option maxRecDepth 100000 in
set_option maxHeartbeats 2000000 in
theorem all_in (b n : Nat) (l : List ByteArray) (L : List Tm) (w : World) (a : Option Addr) (len cap : Nat) (hset : SetAt w b n l) (hrep : RepMs (fun k => k < w.heap.size) w L (.slice a len cap)) :
  CallsIn Fence.wide 3 Tryz.prog 68 #[.map (some b), .slice a len cap] w fun e W' => e = .returned (.bool ((varsL L).all (inB l))) ∧ Below w.heap.size w W' := by
 have h1 : 1 ≤ 3 := by omega
 refine callsIn_of_wp_marks Tryz.func68 rfl trivial ?_ rfl;simp only [Tryz.ntmps68, List.size_toArray, List.length_cons, List.length_nil, Nat.reduceAdd, Nat.reduceSub, Array.replicate_succ, Array.replicate_zero, List.push_toArray, List.append_toArray, List.nil_append, List.cons_append]
 gi_wp2_with ((try refine ⟨trivial, ?_⟩); gi_at_call 107; refine (variables_in Fence.wide _ trivial rfl _ _ _ _).mono ?_; rintro e w' ⟨rfl, rfl⟩)
 have c0 := cell_new1 w (.map (some b)) 123;have c1 := cell_new1 (w.alloc (.cells #[.map (some b)] 123)) (.bool false) 4;have c2 := cell_new1 ((w.alloc (.cells #[.map (some b)] 123)).alloc (.cells #[.bool false] 4)) (.slice a len cap) 44;simp only [World.size_alloc] at c1 c2
 have hB0 : Below w.heap.size w (((w.alloc (.cells #[.map (some b)] 123)).alloc (.cells #[.bool false] 4)).alloc (.cells #[.slice a len cap] 44)) := (((Below.refl _ w).alloc (Nat.le_refl _) _).alloc (by simp) _).alloc (by simp; omega) _;have d0 := (cell_alloc1 (.cells #[.slice a len cap] 44) (cell_alloc1 (.cells #[.bool false] 4) c0.1));have d1 := cell_alloc1 (.cells #[.slice a len cap] 44) c1.1;have d1f := frozen_alloc1 (.cells #[.slice a len cap] 44) c1.1 c1.2;have hsz : (((w.alloc (.cells #[.map (some b)] 123)).alloc (.cells #[.bool false] 4)).alloc (.cells #[.slice a len cap] 44)).heap.size = w.heap.size + 3 := by simp
 have c2c := c2.1;clear c0 c1 c2;generalize (((w.alloc (.cells #[.map (some b)] 123)).alloc (.cells #[.bool false] 4)).alloc (.cells #[.slice a len cap] 44)) = W3 at *
 refine wpIn_rangeFunc_ownG (F := Fence.wide) (n := 3) rfl h1 (gf := 134) (lb := #[.pointer (some ⟨w.heap.size + 1 + 1, 0, none⟩)]) rfl trivial (enters_of Tryz.func134 (by kernel_rfl) rfl)
  (vars_stops Fence.wide rfl 2 trivial trivial rfl (w.heap.size + 1 + 1) w.heap.size W3.heap.size L _ W3 (by omega) hB0.size (Nat.le_refl _) c2c (RepMs.on (S' := SK w.heap.size W3.heap.size W3) (fun _ h => .inl h) (fun k hk => hB0.block k hk) hrep)) KpD.trans (fun W l o o' hl hW ho _ => KpD.putObj W l o o' (by omega) hW ho) (Below.refl _ _) (fun _ => by rfl)
  (fun pre W => ((∀ y ∈ pre, inB l y.1 = true) ∧ W.cell? ⟨w.heap.size, 0, none⟩ = some (.map (some b)) ∧ W.cell? ⟨w.heap.size + 1, 0, none⟩ = some (.bool false) ∧ W.frozen? ⟨w.heap.size + 1, 0, none⟩ = false) ∧ Below w.heap.size w W)
  (fun c pre W => (c = .ret ∧ (∃ y ∈ pre, inB l y.1 = false) ∧ W.cell? ⟨w.heap.size + 1, 0, none⟩ = some (.bool false)) ∧ Below w.heap.size w W)
  (OwnFrom.and (Own.from (fun s A B row hs hg hr => ⟨hs.1, cell_kept hs.2.1 hg hr, cell_kept hs.2.2.1 hg hr, (frozen_kept hs.2.2.1 hg hr).trans hs.2.2.2⟩) _) (ownFrom_below (Nat.le_refl _) (by omega)))
  (fun c => OwnFrom.and (Own.from (fun s A B row hs hg hr => ⟨hs.1, hs.2.1, cell_kept hs.2.2 hg hr⟩) _) (ownFrom_below (Nat.le_refl _) (by omega)))
  ⟨⟨by simp, d0, d1, d1f⟩, hB0⟩
  (fun x => { tmps := #[.map (some b), .slice a len cap, .pointer (some ⟨w.heap.size, 0, none⟩), undef, .pointer (some ⟨w.heap.size + 1, 0, none⟩), .string x.1, .slice a len cap, .func (.func 134) #[] #[.pointer (some ⟨w.heap.size + 1 + 1, 0, none⟩)], .string x.1, undef, undef, undef, undef], defers := [] }) ?assign ?body ?done ?stop
 case assign =>
  intro l x W K hK
  gi_wp2
  exact hK
 case body =>
  rintro l2 pre x W ⟨⟨hp, hcw, hcr, hfr⟩, hB⟩ _;have HP := Lib.hid hp;have hh := has_any b n l x.1 W x.2 (hset.on hB);clear hp;obtain ⟨t, ht⟩ : ∃ t, inB l x.1 = t := ⟨_, rfl⟩;rw [ht] at hh;have HT := Lib.hid ht;clear ht;have HCW := Lib.hid hcw; have HCR := Lib.hid hcr; have HFR := Lib.hid hfr
  clear hcr hfr
  cases t with
  | true =>
   gi_wp2_with ((try refine ⟨trivial, ?_⟩); gi_at_call 63; refine (CallsIn.inRound l2 (callsIn_wide.2 hh)).mono ?_; clear hh; rintro e W' ⟨rfl, hb⟩)
   have hg := grown_of_below hb;have hrow : ∀ r, (none : Option Nat) = some r → ∃ o : Obj, W.heap[r]? = some o ∧ o.isCells = false := fun r e => by cases e
   refine ⟨KeepsFrom.of_grownBy hg (fun j e => by cases e), (KpD.refl _ _ _).of_below hb hB.size, ⟨?_, cell_kept HCW.out hg hrow, cell_kept HCR.out hg hrow, (frozen_kept HCR.out hg hrow).trans HFR.out⟩, hB.trans (hb.mono hB.size)⟩;intro y hy;rcases List.mem_append.1 hy with hy | hy
   ·exact HP.out y hy
   ·rw [List.mem_singleton.1 hy]; exact HT.out
  | false =>
   gi_wp2_with ((try refine ⟨trivial, ?_⟩); gi_at_call 63; refine (CallsIn.inRound l2 (callsIn_wide.2 hh)).mono ?_; clear hh; rintro e W' ⟨rfl, hb⟩; have hcr := cell_kept HCR.out (grown_of_below hb) (fun r e => by cases e); have hfr := (frozen_kept HCR.out (grown_of_below hb) (fun r e => by cases e)).trans HFR.out)
   exact ⟨(KeepsFrom.of_grownBy (grown_of_below hb) (fun j e => by cases e)).trans ((KeepsOthers.setCell _ _ _).from _), ⟨rfl, ⟨x, List.mem_append.2 (.inr (by simp)), HT.out⟩, World.cell?_setCell_same' _ _ _ (by rw [hcr]; rfl)⟩,
    (hB.trans (hb.mono hB.size)).setCell (p := ⟨w.heap.size + 1, 0, none⟩) (by simp) _⟩
 case done =>
  rintro D ys W hD rfl ⟨⟨hall, _, hcr, hfr⟩, hB⟩ hK
  gi_wp2
  have hK' := (KeepsOthers.setCell W ⟨w.heap.size + 1, 0, none⟩ (.bool true)).same D _ hK rfl;refine ⟨by simp, .inl ⟨_, _, rfl, run_takeDeferred hK', ?_⟩⟩;have hc5 := cell_kept (World.cell?_setCell_same' W ⟨w.heap.size + 1, 0, none⟩ (.bool true) (by rw [hcr]; rfl)) (grownBy_putObj' _ D (.deferred none)) (fun r e => by cases e; exact ⟨_, hK', rfl⟩);refine ⟨.bool true, ?_, ?_, (hB.setCell (p := ⟨w.heap.size + 1, 0, none⟩) (by simp) _).trans (belowK_b (w := w) (Nat.le_refl _) _ D _ _ (by omega) hK' rfl rfl)⟩
  ·simp [results, Tryz.f68, go_sem, hc5]
  ·rw [all_names hrep hall]
 case stop =>
  rintro D c pre W hD hpre ⟨⟨rfl, hin, hcr⟩, hB⟩ hK
  gi_wp2
  refine ⟨by simp, .inl ⟨_, _, rfl, run_takeDeferred hK, ?_⟩⟩;have hc5 := cell_kept hcr (grownBy_putObj' _ D (.deferred none)) (fun r e => by cases e; exact ⟨_, hK, rfl⟩);refine ⟨.bool false, ?_, ?_, hB.trans (belowK_b (w := w) (Nat.le_refl _) W D _ _ (by omega) hK rfl rfl)⟩
  ·simp [results, Tryz.f68, go_sem, hc5]
  ·rw [not_all_names hrep hpre hin]
theorem all_any (b n : Nat) (l : List ByteArray) (L : List Tm) (S : Nat → Prop) (w : World) (v : Value) (hS : ∀ k, S k → k < w.heap.size) (hset : SetAt w b n l) (hrep : RepMs S w L v) :
  Calls Tryz.prog 68 #[.map (some b), v] w fun e W' => e = .returned (.bool ((varsL L).all (inB l))) ∧ Below w.heap.size w W' := by
 obtain ⟨a, cap, rfl⟩ := SlG.form hrep;exact callsIn_wide.1 (all_in b n l L w a _ cap hset (RepMs.on hS (fun _ _ => rfl) hrep))
end Go.Proofs.YtjmnnjikmmglpaaGreat
namespace Go.Proofs.YtjmnnjikmmglpaaGreat
open Go.RowKit
def argNames (L : List Tm) : List ByteArray := (L.filter fun t => t.kind == 1).map Tm.name
theorem argNames_take (L : List Tm) {k : Nat} (h : k < L.length) : argNames (L.take (k + 1)) = argNames (L.take k) ++ (if L[k].kind = 1 then [L[k].name] else []) := by
 rw [argNames, List.take_succ_eq_append_getElem h, List.filter_append, List.map_append, ← argNames]
 by_cases hk : L[k].kind = 1
 ·rw [if_pos hk, List.filter_cons, if_pos (by simp [hk])]; rfl
 ·rw [if_neg hk, List.filter_cons, if_neg (by simp [hk])]; rfl
theorem grownT {a b c : World} {row : Option Nat} (h : a.grownBy b row) (k : b.grownBy c row) : a.grownBy c row :=
 ⟨k.os.trans h.os, k.tape.trans h.tape, k.output.trans h.output, Nat.le_trans h.size k.size, fun i hi hne => (k.block i (Nat.lt_of_lt_of_le hi h.size) hne).trans (h.block i hi hne)⟩
theorem grownT_below {a b c : World} {row : Option Nat} (h : a.grownBy b row) (k : Below b.heap.size b c) : a.grownBy c row :=
 grownT h ⟨k.os, k.tape, k.output, k.size, fun i hi _ => k.block i hi⟩
set_option maxRecDepth 100000 in
set_option maxHeartbeats 1000000 in
theorem addArgs_any (b n : Nat) (l : List ByteArray) (L : List Tm) (S : Nat → Prop) (w : World) (v : Value) (hn : n ≤ 100000) (hS : ∀ k, S k → k < w.heap.size ∧ k ≠ b) (hset : SetAt w b n l) (hrep : RepMs S w L v) :
  Calls Tryz.prog 106 #[.map (some b), v] w fun e w' => e = .returned (.tuple #[]) ∧ SetAt w' b (n + L.length) (l ++ argNames L) ∧ w.grownBy w' (some b) := by
 have hlb := SlG.bytes hrep;have HA := Lib.hid hrep; have HS := Lib.hid hS; have HW := Lib.hid hset
 have hbw := hset.lt;obtain ⟨f0, f1, rfl⟩ := SlG.form hrep;clear hrep hS hset;go_enter Tryz.func106, Tryz.ntmps106
 go_wp2_with fail
 go_loopw [8] (fun i wr => ∃ k : Nat, k ≤ L.length ∧ i = .int .i64 k ∧ Hid (SetAt wr b (n + k) (l ++ argNames (L.take k))) ∧ Hid (w.grownBy wr (some b))) (fun i _ => L.length - (intOf i).toNat)
 case atStart => exact ⟨0, Nat.zero_le _, rfl, by show SetAt _ _ _ _; simpa [argNames] using HW.out, ⟨rfl, rfl, rfl, Nat.le_refl _, fun _ _ _ => rfl⟩⟩
 case round =>
  obtain ⟨k, hk, rfl, hset, hg⟩ := hrel
  by_cases hl : k < L.length
  ·have hA := (RepMs.on (fun _ h => h) (fun j hj => hg.out.block j (HS.out j hj).1 (fun e => (HS.out j hj).2 (Option.some.inj e))) HA.out : RepMs S wr L (.slice f0 L.length f1))
   obtain ⟨-, -, lb, lo, fa, fc, ga, gc, rfl, -, g0, g1, g2, g3, g4, g5, g6, g⟩ := RepMs.at hA k hl;have HT := Lib.hid (argNames_take L hl);have HN := Lib.hid (RepM.bounds g).2;clear hA g;generalize L[k] = z at *;have hba := below_alloc wr (.cells #[.int .i64 z.kind, .string z.name, .int .i64 z.val.kind, .int .i64 z.val.num, .string z.val.text, .slice fa z.val.list.length fc, .slice ga z.args.length gc] 68);have hbx := boxM_new wr (.int .i64 z.kind) (.string z.name) (.int .i64 z.val.kind) (.int .i64 z.val.num) (.string z.val.text) (.slice fa z.val.list.length fc) (.slice ga z.args.length gc);have HG1 := Lib.hid (grownT_below hg.out hba);have HS1 := Lib.hid (hset.out.on hba);obtain ⟨e0, e1, e2, e3, e4, e5, e6⟩ := hbx.cells;clear hba hbx hset hg
   by_cases hkd : z.kind = 1
   ·have hk1 : (z.kind == 1) = true := by simp [hkd]
    rw [if_pos hkd] at HT;clear hkd;go_wp2_with fail
    clear g0 g1 g2 g3 g4 g5 g6;generalize wr.alloc (.cells #[.int .i64 z.kind, .string z.name, .int .i64 z.val.kind, .int .i64 z.val.num, .string z.val.text, .slice fa z.val.list.length fc, .slice ga z.args.length gc] 68) = wa at *;refine (add_any b (n + k) _ z.name wa (by unfold maxLen; omega) HN.out HS1.out).mono ?_;rintro e w4 ⟨rfl, hs4, hg4⟩;have HS4 : Hid (SetAt w4 b (n + (k + 1)) (l ++ argNames (L.take (k + 1)))) := by show SetAt _ _ _ _; rw [HT.out, ← List.append_assoc]; exact hs4
    have HG4 := Lib.hid (grownT HG1.out hg4);clear hs4 hg4 e0 e1 e2 e3 e4 e5 e6;go_wp2_with fail
    go_roundw
    case rel => exact ⟨k + 1, hl, by go_num, HS4, HG4.out⟩
    case measure => simp [intOf]; omega
   ·have hk1 : (z.kind == 1) = false := by simp [hkd]
    rw [if_neg hkd, List.append_nil] at HT;clear hkd;go_wp2_with fail
    go_roundw
    case rel => exact ⟨k + 1, hl, by go_num, by rw [HT.out]; exact HS1.out.mono (by omega), HG1.out⟩
    case measure => simp [intOf]; omega
  ·obtain rfl : k = L.length := by omega
   rw [List.take_length] at hset;go_wp2_with fail
   go_end0
   exact ⟨rfl, hset.out, hg.out⟩
def goArgs (l : List ByteArray) (z : Li) : List ByteArray := if z.kind = 1 then l ++ argNames z.args else l
def goErr (l : List ByteArray) (z : Li) : Int := if (varsL z.args).all (inB (goArgs l z)) = true then (if z.kind = 4 ∧ inB (goArgs l z) z.name = true then 62 else 0) else 61
def goSet (l : List ByteArray) (z : Li) : List ByteArray := if z.kind = 4 then goArgs l z ++ [z.name] else goArgs l z
def GoPost (b n : Nat) (l : List ByteArray) (z : Li) (w : World) (e : Ending) (w' : World) : Prop :=
 e = .returned (.int .i64 (goErr l z)) ∧ w.grownBy w' (some b) ∧ (goErr l z = 0 → SetAt w' b (n + z.args.length + 1) (goSet l z))
theorem BoxLi.grown {w w' : World} {k : Nat} {c0 c1 c2 : Value} (h : BoxLi w k c0 c1 c2) {row : Option Nat} (hg : w.grownBy w' row) (hne : some k ≠ row) : BoxLi w' k c0 c1 c2 := (hg.block k h.lt hne).trans h
set_option maxRecDepth 100000 in
set_option maxHeartbeats 1000000 in
theorem goOn_any (b n : Nat) (l : List ByteArray) (z : Li) (S : Nat → Prop) (w : World) (c0 c1 c2 : Value) (hn : n ≤ 100000) (hlen : z.args.length ≤ 8) (hS : ∀ k, S k → k < w.heap.size ∧ k ≠ b) (hset : SetAt w b n l) (hrep : RepLi S w z c0 c1 c2) :
  Calls Tryz.prog 67 #[.map (some b), .agg #[c0, c1, c2]] w (GoPost b n l z w) := by
 have hbw := hset.lt;have HR := Lib.hid hrep; have HS := Lib.hid hS; have HW := Lib.hid hset; have HN := Lib.hid hrep.2.2.2.1
 obtain ⟨ga, gc, rfl, rfl, rfl⟩ := RepLi.form hrep;clear hrep hS hset
 by_cases hk1 : z.kind = 1
 ·have hkb : (z.kind == 1) = true := by simp [hk1]
  have hkc : (z.kind == 4) = false := by simp [hk1]
  have HGA : Hid (goArgs l z = l ++ argNames z.args) := by show _ = _; rw [goArgs, if_pos hk1]
  have HE : Hid (goErr l z = if (varsL z.args).all (inB (l ++ argNames z.args)) = true then 0 else 61) := by show _ = _; rw [goErr, HGA.out, if_neg (show ¬ (z.kind = 4 ∧ _) from fun h => by omega)]
  have HGS : Hid (goSet l z = l ++ argNames z.args) := by show _ = _; rw [goSet, if_neg (by omega), HGA.out]
  clear hk1;go_enter Tryz.func67, Tryz.ntmps67
  go_wp2_with fail
  have x0 := boxLi_new w (.int .i64 z.kind) (.string z.name) (.slice ga z.args.length gc);have d0 := below_alloc w (.cells #[.int .i64 z.kind, .string z.name, .slice ga z.args.length gc] 60);generalize w.alloc (.cells #[.int .i64 z.kind, .string z.name, .slice ga z.args.length gc] 60) = w1 at *;have X1 := Lib.hid x0; have HG1 := Lib.hid (grownT_below (World.grownBy.refl w (some b)) d0); have S1 := Lib.hid (HW.out.on d0)
  have HB1 := Lib.hid d0;have R1 := Lib.hid (RepMs.on (S' := fun k => k < w.heap.size ∧ k ≠ b) HS.out (fun k hk => d0.block k (HS.out k hk).1) HR.out.2.2.2.2);have Z1 := Lib.hid d0.size;clear d0 x0 HR HS HW;obtain ⟨e0, e1, e2⟩ := X1.out.cells;go_wp2_with fail
  refine (addArgs_any b n l z.args (fun k => k < w.heap.size ∧ k ≠ b) w1 _ hn (fun k hk => ⟨Nat.lt_of_lt_of_le hk.1 Z1.out, hk.2⟩) S1.out R1.out).mono ?_;rintro e w2 ⟨rfl, hs, hg⟩;have X2 := Lib.hid (X1.out.grown hg (by intro h; cases h; omega)); have HG2 := Lib.hid (grownT HG1.out hg); have S2 := Lib.hid hs; have Z2 := Lib.hid hg.size
  have R2 := Lib.hid (RepMs.on (fun _ h => h) (fun k (hk : k < w.heap.size ∧ k ≠ b) => hg.block k (Nat.lt_of_lt_of_le hk.1 Z1.out) (fun e => hk.2 (Option.some.inj e))) R1.out);clear hs hg e0 e1 e2 X1 HG1 S1 R1;obtain ⟨e0, e1, e2⟩ := X2.out.cells;go_wp2_with fail
  refine (all_any b (n + z.args.length) (l ++ argNames z.args) z.args (fun k => k < w.heap.size ∧ k ≠ b) w2 _ (fun k hk => Nat.lt_of_lt_of_le hk.1 (Nat.le_trans Z1.out Z2.out)) S2.out R2.out).mono ?_;rintro e w3 ⟨rfl, hb⟩;have X2' := Lib.hid (X2.out.on hb); have HG2' := Lib.hid (grownT_below HG2.out hb); have S2' := Lib.hid (S2.out.on hb)
  clear hb;clear e0 e1 e2;obtain ⟨e0, e1, e2⟩ := X2'.out.cells
  cases hc : (varsL z.args).all (inB (l ++ argNames z.args)) with
  | false =>
   have HF : Hid (goErr l z = 61) := by show _ = _; rw [HE.out, hc]; rfl
   clear hc;go_wp2_with fail
   go_ret
   exact ⟨ret_i HF.out.symm, HG2'.out, fun h => by rw [HF.out] at h; cases h⟩
  | true =>
   have HF : Hid (goErr l z = 0) := by show _ = _; rw [HE.out, hc]; rfl
   clear hc;go_wp2_with fail
   go_ret
   exact ⟨ret_i HF.out.symm, HG2'.out, fun _ => by rw [HGS.out]; exact S2'.out.mono (by omega)⟩
 ·have hkb : (z.kind == 1) = false := by simp [hk1]
  have HGA : Hid (goArgs l z = l) := by show _ = _; rw [goArgs, if_neg hk1]
  by_cases hk4 : z.kind = 4
  ·have hkc : (z.kind == 4) = true := by simp [hk4]
   have HE : Hid (goErr l z = if (varsL z.args).all (inB l) = true then (if inB l z.name = true then 62 else 0) else 61) := by show _ = _; rw [goErr, HGA.out]; simp only [hk4, true_and]
   have HGS : Hid (goSet l z = l ++ [z.name]) := by show _ = _; rw [goSet, if_pos hk4, HGA.out]
   clear hk1 hk4;go_enter Tryz.func67, Tryz.ntmps67
   go_wp2_with fail
   have x0 := boxLi_new w (.int .i64 z.kind) (.string z.name) (.slice ga z.args.length gc);have d0 := below_alloc w (.cells #[.int .i64 z.kind, .string z.name, .slice ga z.args.length gc] 60);generalize w.alloc (.cells #[.int .i64 z.kind, .string z.name, .slice ga z.args.length gc] 60) = w1 at *;have X1 := Lib.hid x0; have HG1 := Lib.hid (grownT_below (World.grownBy.refl w (some b)) d0); have S1 := Lib.hid (HW.out.on d0)
   have HB1 := Lib.hid d0;have R1 := Lib.hid (RepMs.on (S' := fun k => k < w.heap.size ∧ k ≠ b) HS.out (fun k hk => d0.block k (HS.out k hk).1) HR.out.2.2.2.2);have Z1 := Lib.hid d0.size;clear d0 x0 HR HS HW;obtain ⟨e0, e1, e2⟩ := X1.out.cells;go_wp2_with fail
   refine (all_any b (n) (l) z.args (fun k => k < w.heap.size ∧ k ≠ b) w1 _ (fun k hk => Nat.lt_of_lt_of_le hk.1 Z1.out) S1.out R1.out).mono ?_;rintro e w3 ⟨rfl, hb⟩;have X1' := Lib.hid (X1.out.on hb); have HG1' := Lib.hid (grownT_below HG1.out hb); have S1' := Lib.hid (S1.out.on hb)
   clear hb;clear e0 e1 e2;obtain ⟨e0, e1, e2⟩ := X1'.out.cells
   cases hc : (varsL z.args).all (inB l) with
   | false =>
    have HF : Hid (goErr l z = 61) := by show _ = _; rw [HE.out, hc]; rfl
    clear hc;go_wp2_with fail
    go_ret
    exact ⟨ret_i HF.out.symm, HG1'.out, fun h => by rw [HF.out] at h; cases h⟩
   | true =>
    have HE2 : Hid (goErr l z = if inB l z.name = true then 62 else 0) := by show _ = _; rw [HE.out, hc]; rfl
    clear hc;go_wp2_with fail
    refine (has_any b n l z.name w3 HN.out S1'.out).mono ?_;rintro e w4 ⟨rfl, hb⟩;have X4 := Lib.hid (X1'.out.on hb); have HG4 := Lib.hid (grownT_below HG1'.out hb); have S4 := Lib.hid (S1'.out.on hb)
    clear hb e0 e1 e2;obtain ⟨e0, e1, e2⟩ := X4.out.cells
    cases hc : inB l z.name with
    | true =>
     have HF : Hid (goErr l z = 62) := by show _ = _; rw [HE2.out, hc]; rfl
     clear hc;go_wp2_with fail
     go_ret
     exact ⟨ret_i HF.out.symm, HG4.out, fun h => by rw [HF.out] at h; cases h⟩
    | false =>
     have HF : Hid (goErr l z = 0) := by show _ = _; rw [HE2.out, hc]; rfl
     clear hc;go_wp2_with fail
     refine (add_any b n l z.name w4 (by unfold maxLen; omega) HN.out S4.out).mono ?_;rintro e w5 ⟨rfl, hs5, hg5⟩;have HG5 := Lib.hid (grownT HG4.out hg5); have S5 := Lib.hid hs5
     clear hs5 hg5 e0 e1 e2;go_wp2_with fail
     go_ret
     exact ⟨ret_i HF.out.symm, HG5.out, fun _ => by rw [HGS.out]; exact S5.out.mono (by omega)⟩
  ·have hkc : (z.kind == 4) = false := by simp [hk4]
   have HE : Hid (goErr l z = if (varsL z.args).all (inB l) = true then 0 else 61) := by show _ = _; rw [goErr, HGA.out, if_neg (show ¬ (z.kind = 4 ∧ _) from fun h => hk4 h.1)]
   have HGS : Hid (goSet l z = l) := by show _ = _; rw [goSet, if_neg hk4, HGA.out]
   clear hk1 hk4;go_enter Tryz.func67, Tryz.ntmps67
   go_wp2_with fail
   have x0 := boxLi_new w (.int .i64 z.kind) (.string z.name) (.slice ga z.args.length gc);have d0 := below_alloc w (.cells #[.int .i64 z.kind, .string z.name, .slice ga z.args.length gc] 60);generalize w.alloc (.cells #[.int .i64 z.kind, .string z.name, .slice ga z.args.length gc] 60) = w1 at *;have X1 := Lib.hid x0; have HG1 := Lib.hid (grownT_below (World.grownBy.refl w (some b)) d0); have S1 := Lib.hid (HW.out.on d0)
   have HB1 := Lib.hid d0;have R1 := Lib.hid (RepMs.on (S' := fun k => k < w.heap.size ∧ k ≠ b) HS.out (fun k hk => d0.block k (HS.out k hk).1) HR.out.2.2.2.2);have Z1 := Lib.hid d0.size;clear d0 x0 HR HS HW;obtain ⟨e0, e1, e2⟩ := X1.out.cells;go_wp2_with fail
   refine (all_any b (n) (l) z.args (fun k => k < w.heap.size ∧ k ≠ b) w1 _ (fun k hk => Nat.lt_of_lt_of_le hk.1 Z1.out) S1.out R1.out).mono ?_;rintro e w3 ⟨rfl, hb⟩;have X1' := Lib.hid (X1.out.on hb); have HG1' := Lib.hid (grownT_below HG1.out hb); have S1' := Lib.hid (S1.out.on hb)
   clear hb;clear e0 e1 e2;obtain ⟨e0, e1, e2⟩ := X1'.out.cells
   cases hc : (varsL z.args).all (inB l) with
   | false =>
    have HF : Hid (goErr l z = 61) := by show _ = _; rw [HE.out, hc]; rfl
    clear hc;go_wp2_with fail
    go_ret
    exact ⟨ret_i HF.out.symm, HG1'.out, fun h => by rw [HF.out] at h; cases h⟩
   | true =>
    have HF : Hid (goErr l z = 0) := by show _ = _; rw [HE.out, hc]; rfl
    clear hc;go_wp2_with fail
    go_ret
    exact ⟨ret_i HF.out.symm, HG1'.out, fun _ => by rw [HGS.out]; exact S1'.out.mono (by omega)⟩
end Go.Proofs.YtjmnnjikmmglpaaGreat
