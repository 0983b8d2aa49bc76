/-
  ScVarsOf, SixVars, RefSixSmall
-/
import Derived.Test.YtjohcnhiblfbnaaGreatK10
import Derived.Test.YtjohcnhiblfbnaaGreatK06
import Derived.Test.YtjohcnhiblfbnaaGreatK08
import Derived.Test.YtjohcnhiblfbnaaGreatK07
import Derived.Test.YtjohcnhiblfbnaaGreatK09
import Derived.RangeFuncBox
import Derived.Maps.OwnIn
import Derived.Maps.AppendAt
namespace Go.Proofs.YtjohcnhiblfbnaaGreat
open Go.RowKit Go.Shelf
attribute [local go_sem] Oper.semAt_some
def ddN (l : List Nm) : List Nm := l.foldl (fun a x => if inB (a.map (·.1)) x.1 = true then a else a ++ [x]) []
theorem ddN_hit {l : List Nm} {x : Nm} (h : inB ((ddN l).map (·.1)) x.1 = true) : ddN (l ++ [x]) = ddN l := by
 unfold ddN at h ⊢;rw [List.foldl_append, List.foldl_cons, List.foldl_nil, if_pos h]
theorem ddN_new {l : List Nm} {x : Nm} (h : inB ((ddN l).map (·.1)) x.1 = false) : ddN (l ++ [x]) = ddN l ++ [x] := by
 unfold ddN at h ⊢;rw [List.foldl_append, List.foldl_cons, List.foldl_nil, if_neg (by rw [h]; decide)]
theorem ddN_le (l : List Nm) : (ddN l).length ≤ l.length := by
 suffices H : ∀ (r : List Nm), r <+: l → (ddN r).length ≤ r.length from H l (List.prefix_refl l)
 intro r _
 induction hr : r.length generalizing r with
 | zero => rw [List.length_eq_zero_iff.1 hr]; simp [ddN]
 | succ n ih =>
  have hne : r ≠ [] := by intro h; rw [h] at hr; cases hr
  obtain ⟨s, x, rfl⟩ : ∃ s x, r = s ++ [x] := ⟨r.dropLast, r.getLast hne, (List.dropLast_concat_getLast hne).symm⟩;have h1 := ih s (by exact List.IsPrefix.trans (List.prefix_append _ _) ‹_›) (by simpa using hr)
  cases hc : inB ((ddN s).map (·.1)) x.1 with
  | true => rw [ddN_hit hc]; omega
  | false => rw [ddN_new hc, List.length_append, List.length_singleton]; omega
theorem infoStr : (Tryz.prog.info? 9).map (fun i => (i.zero, i.size, i.bytes)) = some (some (.string ⟨#[]⟩), 1, 16) := by kernel_rfl
theorem SetAt.not_row {w : World} {b n : Nat} {l : List ByteArray} (h : SetAt w b n l) {base : Nat} {e : TypeId} {size k : Nat} {v : Value} {xs : List Value} (hr : w.ownsRow base e size v k xs) : v.ownBlock ≠ some b := by
 intro he;rcases hr.2 with ⟨rfl, -⟩ | ⟨g, cap, cur, rfl, -, hg, -⟩
 ·simp [Value.ownBlock] at he
 ·obtain rfl : g = b := by simpa [Value.ownBlock] using he
  obtain ⟨es, clock, hb, -⟩ := h.1;rw [hg] at hb
  cases hb
theorem boxed_not_map {w : World} {b n : Nat} {l : List ByteArray} (h : SetAt w b n l) {k : Nat} {t : TypeId} {v : Value} (hb : Go.Boxed w k t v) : some k ≠ some b := by
 intro he;obtain rfl : k = b := Option.some.inj he;obtain ⟨es, clock, hm, -⟩ := h.1;rw [show w.heap[k]? = _ from hb] at hm
 cases hm
theorem own_none (v : Value) : v.ownBlock = none ∨ v.ownBlock ≠ (none : Option Nat) := by
 cases v.ownBlock <;> simp
theorem kp_grown {n₀ D b : Nat} {W W' : World} (hg : W.grownBy W' (some b)) (hn : n₀ ≤ W.heap.size) (hb : n₀ ≤ b) (hD : b < D) : KpD n₀ D W W' :=
 ⟨(Below.refl n₀ W).grown hg hn (fun k e => by cases e; exact hb), fun k o hk ho _ => (hg.block k (Array.getElem?_eq_some_iff.1 ho).1 (fun e => by cases e; omega)).trans ho⟩
theorem kp_append {n₀ D B : Nat} {t : TypeId} {W2 w1 : World} {v v' : Value} {k : Nat} {xs : List Value} {tmp : Obj} (hv : Go.Boxed W2 B t v) (hrow : W2.ownsRow n₀ 9 1 v k xs) (hgrow : (W2.alloc tmp).grownBy w1 v.ownBlock) (hB : B < D)
  (hb2 : Below n₀ W2 (w1.setCell ⟨B, 0, none⟩ v')) : KpD n₀ D W2 (w1.setCell ⟨B, 0, none⟩ v') := by
 refine ⟨hb2, fun j o hj ho hc => ?_⟩;have hlt := (Array.getElem?_eq_some_iff.1 ho).1
 have hne : some j ≠ v.ownBlock := by
  intro e;rcases hrow.2 with ⟨rfl, -⟩ | ⟨g, cap, cur, rfl, -, hg, -⟩
  ·simp [Value.ownBlock] at e
  ·obtain rfl : j = g := by simpa [Value.ownBlock] using e
   rw [hg] at ho
   cases ho
   simp [keptB] at hc
 exact (Below.heap_setCell w1 ⟨B, 0, none⟩ v' j (by show j ≠ B; omega)).trans ((hgrow.block j (by simp; omega) hne).trans ((Below.heap_alloc _ _ _ hlt).trans ho))
def VI (w : World) (pre : List Nm) (W : World) : Prop :=
 (∃ v, Go.Boxed W (w.heap.size + 1) 45 v ∧ W.ownsRow (w.heap.size + 1) 9 1 v (ddN pre).length ((ddN pre).map fun x => Value.string x.1)) ∧
  SetAt W (w.heap.size + 2) (ddN pre).length ((ddN pre).map (·.1)) ∧ Go.Boxed W (w.heap.size + 3) 84 (.map (some (w.heap.size + 2))) ∧ Below w.heap.size w W
theorem VI.own (w : World) (B : Nat) (hB : w.heap.size + 4 ≤ B) : OwnFrom B (VI w) := by
 rintro pre W W' row ⟨⟨v, hv, hr⟩, hs, hm, hb⟩ hg hrow
 have hc : ∀ k t u, Go.Boxed W k t u → some k ≠ row := fun k t u hk e => by
  obtain ⟨-, o, ho, hoc⟩ := hrow k e.symm;rw [show W.heap[k]? = _ from hk] at ho
  cases ho
  cases hoc
 have hr2 : W'.ownsRow (w.heap.size + 1) 9 1 v (ddN pre).length ((ddN pre).map fun x => Value.string x.1) := by
  refine hr.kept hg ?_;rcases hr.2 with ⟨rfl, -⟩ | ⟨g, cap, cur, rfl, -, hgg, -⟩
  ·exact .inl rfl
  ·refine .inr fun e => ?_
   have e' : row = some g := by rw [← e]; rfl
   obtain ⟨-, o, ho, hoc⟩ := hrow g e';rw [hgg] at ho
   cases ho
   cases hoc
 refine ⟨⟨v, hv.kept hg (hc _ _ _ hv), hr2⟩, hs.grown hg (fun e => ?_), hm.kept hg (hc _ _ _ hm), hb.grown hg hb.size (fun k e => ?_)⟩
 ·have := (hrow _ e.symm).1; omega
 ·have := (hrow _ e).1; omega
set_option maxRecDepth 100000 in
set_option maxHeartbeats 4000000 in
theorem vars_in (t : Tm) (w : World) (fa : Option Addr) (fc : Nat) (ga : Option Addr) (gc : Nat) (hrep : TmAt (fun k => k < w.heap.size) w t fa fc ga gc) (hfew : (varsM t).length ≤ 100000) :
  CallsIn Fence.wide 3 Tryz.prog 17 #[.agg #[.int .i64 t.kind, .string t.name, .int .i64 t.val.kind, .int .i64 t.val.num, .string t.val.text, .slice fa t.val.list.length fc, .slice ga t.args.length gc]] w
   fun e W' => ∃ v, e = .returned v ∧ W'.ownsRow (w.heap.size + 1) 9 1 v (ddN (namesL [t])).length ((ddN (namesL [t])).map fun x => Value.string x.1) ∧ Below w.heap.size w W' := by
 have h1 : 1 ≤ 3 := by omega
 obtain ⟨i0, hi, hz0, hz1, hz2⟩ := info_parts infoStr;have hmm := @run_makeMap Tryz.prog;refine callsIn_of_wp_marks Tryz.func17 rfl trivial ?_ rfl;simp only [Tryz.ntmps17, List.size_toArray, List.length_cons, List.length_nil, Nat.reduceAdd, Nat.reduceSub, Array.replicate_succ, Array.replicate_zero, List.push_toArray, List.append_toArray, List.nil_append, List.cons_append]
 gi_wp2_with ((try refine ⟨trivial, ?_⟩); gi_at_call 41; refine (variables_in Fence.wide _ trivial rfl _ _ _ _).mono ?_; rintro e w' ⟨rfl, rfl⟩)
 obtain ⟨T, hT⟩ : ∃ T, Obj.cells #[.int .i64 t.kind, .string t.name, .int .i64 t.val.kind, .int .i64 t.val.num, .string t.val.text, .slice fa t.val.list.length fc, .slice ga t.args.length gc] 34 = T := ⟨_, rfl⟩;rw [hT];have s1 : (w.alloc T).heap.size = w.heap.size + 1 := World.size_alloc _ _;have s2 : ((w.alloc T).alloc (.cells #[.slice none 0 0] 45)).heap.size = w.heap.size + 1 + 1 := by rw [World.size_alloc, s1]
 have s3 : (((w.alloc T).alloc (.cells #[.slice none 0 0] 45)).alloc (.map #[] 0)).heap.size = w.heap.size + 1 + 1 + 1 := by rw [World.size_alloc, s2]
 have s4 : ((((w.alloc T).alloc (.cells #[.slice none 0 0] 45)).alloc (.map #[] 0)).alloc (.cells #[.map (some (w.heap.size + 1 + 1))] 84)).heap.size = w.heap.size + 1 + 1 + 1 + 1 := by rw [World.size_alloc, s3]
 have s5 : (((((w.alloc T).alloc (.cells #[.slice none 0 0] 45)).alloc (.map #[] 0)).alloc (.cells #[.map (some (w.heap.size + 1 + 1))] 84)).alloc T).heap.size = w.heap.size + 1 + 1 + 1 + 1 + 1 := by rw [World.size_alloc, s4]
 have b1 := Go.Boxed.new (w.alloc T) 45 (.slice none 0 0);have m2 := setAt_new ((w.alloc T).alloc (.cells #[.slice none 0 0] 45));have b3 := Go.Boxed.new (((w.alloc T).alloc (.cells #[.slice none 0 0] 45)).alloc (.map #[] 0)) 84 (.map (some (w.heap.size + 1 + 1)));have x4 := boxM_new ((((w.alloc T).alloc (.cells #[.slice none 0 0] 45)).alloc (.map #[] 0)).alloc (.cells #[.map (some (w.heap.size + 1 + 1))] 84)) (.int .i64 t.kind) (.string t.name) (.int .i64 t.val.kind) (.int .i64 t.val.num) (.string t.val.text) (.slice fa t.val.list.length fc) (.slice ga t.args.length gc);rw [hT] at x4;have c5 := cell_new1 (((((w.alloc T).alloc (.cells #[.slice none 0 0] 45)).alloc (.map #[] 0)).alloc (.cells #[.map (some (w.heap.size + 1 + 1))] 84)).alloc T) (.slice (some ⟨w.heap.size + 1 + 1 + 1 + 1, 0, none⟩) 1 1) 32;rw [s1] at b1; rw [s2] at m2; rw [s3] at b3; rw [s4] at x4; rw [s5] at c5
 have hB0 : Below w.heap.size w ((((((w.alloc T).alloc (.cells #[.slice none 0 0] 45)).alloc (.map #[] 0)).alloc (.cells #[.map (some (w.heap.size + 1 + 1))] 84)).alloc T).alloc (.cells #[.slice (some ⟨w.heap.size + 1 + 1 + 1 + 1, 0, none⟩) 1 1] 32)) :=
  ((((((Below.refl _ w).alloc (Nat.le_refl _) _).alloc (by omega) _).alloc (by omega) _).alloc (by omega) _).alloc (by omega) _).alloc (by omega) _
 have s6 : ((((((w.alloc T).alloc (.cells #[.slice none 0 0] 45)).alloc (.map #[] 0)).alloc (.cells #[.map (some (w.heap.size + 1 + 1))] 84)).alloc T).alloc (.cells #[.slice (some ⟨w.heap.size + 1 + 1 + 1 + 1, 0, none⟩) 1 1] 32)).heap.size = w.heap.size + 6 := by rw [World.size_alloc, s5]
 replace b1 := ((((b1.alloc (.map #[] 0)).alloc (.cells #[.map (some (w.heap.size + 1 + 1))] 84)).alloc T).alloc (.cells #[.slice (some ⟨w.heap.size + 1 + 1 + 1 + 1, 0, none⟩) 1 1] 32));replace m2 := (((m2.on (below_alloc _ (.cells #[.map (some (w.heap.size + 1 + 1))] 84))).on (below_alloc _ T)).on (below_alloc _ (.cells #[.slice (some ⟨w.heap.size + 1 + 1 + 1 + 1, 0, none⟩) 1 1] 32)));replace b3 := ((b3.alloc T).alloc (.cells #[.slice (some ⟨w.heap.size + 1 + 1 + 1 + 1, 0, none⟩) 1 1] 32));replace x4 := x4.on (below_alloc _ (.cells #[.slice (some ⟨w.heap.size + 1 + 1 + 1 + 1, 0, none⟩) 1 1] 32));have c5c := c5.1;clear c5 s1 s2 s3 s4 s5;generalize ((((((w.alloc T).alloc (.cells #[.slice none 0 0] 45)).alloc (.map #[] 0)).alloc (.cells #[.map (some (w.heap.size + 1 + 1))] 84)).alloc T).alloc (.cells #[.slice (some ⟨w.heap.size + 1 + 1 + 1 + 1, 0, none⟩) 1 1] 32)) = W3 at *
 have hrepL : RepMs (SK (w.heap.size + 1) (w.heap.size + 4) W3) W3 [t] (.slice (some ⟨w.heap.size + 1 + 1 + 1 + 1, 0, none⟩) 1 1) := by
  refine ⟨some ⟨w.heap.size + 1 + 1 + 1 + 1, 0, none⟩, w.heap.size + 1 + 1 + 1 + 1, 0, 1, rfl, by simp, by simp, fun _ => rfl, fun _ => .inr ⟨by omega, _, x4, rfl⟩, fun i hi => ?_⟩;obtain rfl : i = 0 := by simpa using hi
  refine ⟨fun j => (#[.int .i64 t.kind, .string t.name, .int .i64 t.val.kind, .int .i64 t.val.num, .string t.val.text, .slice fa t.val.list.length fc, .slice ga t.args.length gc] : Array Value).getD j undef, fun j hj => ?_, RepM.on (fun k (hk : k < w.heap.size) => .inl (by omega)) (fun k hk => hB0.block k hk) t hrep⟩;obtain ⟨e0, e1, e2, e3, e4, e5, e6⟩ := x4.cells
  match j, hj with
  | 0, _ => exact e0
  | 1, _ => exact e1
  | 2, _ => exact e2
  | 3, _ => exact e3
  | 4, _ => exact e4
  | 5, _ => exact e5
  | 6, _ => exact e6
 have hvi : VI w [] W3 := ⟨⟨_, b1, World.ownsRow_nil _ _ _ _⟩, m2, b3, hB0⟩;clear hrep x4 hmm b1 m2 b3;have hnv : (namesL [t]).length ≤ 100000 := by rw [namesL_length, varsL, varsL, List.append_nil]; exact hfew
 refine wpIn_rangeFunc_ownG (F := Fence.wide) (n := 3) rfl h1 (gf := 69) (lb := #[.pointer (some ⟨w.heap.size + 1 + 1 + 1 + 1 + 1, 0, none⟩)]) rfl trivial (enters_of Tryz.func69 (by kernel_rfl) rfl)
  (vars_stops Fence.wide rfl 2 trivial trivial rfl (w.heap.size + 1 + 1 + 1 + 1 + 1) (w.heap.size + 1) (w.heap.size + 4) [t] _ W3 (by omega) (by omega) (by omega) c5c hrepL) KpD.trans (fun W l o o' hl hW ho _ => KpD.putObj W l o o' (by omega) hW ho) (Below.refl _ _) (fun _ => by rfl)
  (VI w) (fun _ _ _ => False) (VI.own w _ (by omega)) (fun _ _ _ _ _ hs _ _ => hs) hvi
  (fun x => { tmps := #[.agg #[.int .i64 t.kind, .string t.name, .int .i64 t.val.kind, .int .i64 t.val.num, .string t.val.text, .slice fa t.val.list.length fc, .slice ga t.args.length gc], .pointer (some ⟨w.heap.size, 0, none⟩), .slice none 0 0, .pointer (some ⟨w.heap.size + 1, 0, none⟩), .pointer (some ⟨w.heap.size + 1 + 1 + 1, 0, none⟩), .string x.1, .map (some (w.heap.size + 1 + 1)), .agg #[.int .i64 t.kind, .string t.name, .int .i64 t.val.kind, .int .i64 t.val.num, .string t.val.text, .slice fa t.val.list.length fc, .slice ga t.args.length gc], .slice (some ⟨w.heap.size + 1 + 1 + 1 + 1, 0, none⟩) 1 1, .func (.func 69) #[] #[.pointer (some ⟨w.heap.size + 1 + 1 + 1 + 1 + 1, 0, none⟩)], .string x.1, undef, undef, undef, undef, undef, undef, undef, undef, undef, undef, undef, undef], defers := [] }) ?assign ?body ?done ?stop
 case assign =>
  intro l x W K hK
  gi_wp2
  exact hK
 case body =>
  rintro l2 pre x W ⟨⟨v, hv, hrow⟩, hset, hmb, hB⟩ hpl;have hple : (ddN pre).length ≤ 100000 := Nat.le_trans (ddN_le pre) (by omega);have HW3 := Lib.hid s6;have hh := has_any (w.heap.size + 2) _ _ x.1 W x.2 hset;have HV := Lib.hid hv; have HR := Lib.hid hrow; have HS := Lib.hid hset; have HM := Lib.hid hmb; have HB := Lib.hid hB
  have hmc := hmb.cell
  cases ht : inB ((ddN pre).map (·.1)) x.1 with
  | true =>
   have HD := Lib.hid (ddN_hit ht);rw [ht] at hh;clear ht hv hrow hset hmb hB
   gi_wp2_with ((try refine ⟨trivial, ?_⟩); gi_at_call 42; refine (CallsIn.inRound l2 (callsIn_wide.2 hh)).mono ?_; clear hh; rintro e W' ⟨rfl, hb⟩)
   have hg := grown_of_below hb;refine ⟨KeepsFrom.of_grownBy hg (fun j e => by cases e), (KpD.refl _ _ _).of_below hb (by have := HB.out.size; have := HM.out.lt; omega), ?_⟩;rw [VI, HD.out];exact ⟨⟨v, HV.out.kept hg (by simp), HR.out.kept hg (own_none _)⟩, HS.out.on hb, HM.out.kept hg (by simp), HB.out.trans (hb.mono HB.out.size)⟩
  | false =>
   have HD := Lib.hid (ddN_new ht);rw [ht] at hh;clear ht hv hrow hset hmb hB
   gi_wp2_with (first
    | ((try refine ⟨trivial, ?_⟩); gi_at_call 42; refine (CallsIn.inRound l2 (callsIn_wide.2 hh)).mono ?_; clear hh; rintro e W' ⟨rfl, hb⟩; have hmc' := (HM.out.kept (grown_of_below hb) (by simp)).cell; have hadd := add_any (w.heap.size + 2) _ _ x.1 W' (by unfold maxLen; omega) x.2 (HS.out.on hb))
    | ((try refine ⟨trivial, ?_⟩); gi_at_call 43; refine (CallsIn.inRound l2 (callsIn_wide.2 hadd)).mono ?_; clear hadd; rintro e W2 ⟨rfl, hs2, hg2⟩; have hv2 := (HV.out.kept (grown_of_below hb) (by simp)).kept hg2 (boxed_not_map (HS.out.on hb) (HV.out.kept (grown_of_below hb) (by simp))); have hc2 := hv2.cell; have hr2 := (HR.out.kept (grown_of_below hb) (own_none _)).kept hg2 (.inr ((HS.out.on hb).not_row (HR.out.kept (grown_of_below hb) (own_none _)))))
    | (gi_at_builtin; refine wpListIn_append_own _ rfl _ _ 45 rfl (w.heap.size + 1) 9 i0 (.string ⟨#[]⟩) 1 16 Tryz.underlying45 hi hz0 hz1 hz2 rfl (by decide) _ _ _ rfl (hr2.alloc _) ⟨W2.heap.size, 0, none⟩ 1 1 [.string x.1] rfl rfl (cell_one_new _ _ _) (by simp [Value.oneCell']) (by unfold maxLen; omega) (by omega) (by have h1 := hv2.lt; simp; omega) ?_; intro v' w1 hown' hgrow _; obtain ⟨g', cap', rfl⟩ := ownsRow_succ hown'; obtain ⟨hv1, hv3, hr3, hk3, hb3⟩ := hv2.appended (by decide) hr2 (Nat.le_of_lt hv2.lt) (Nat.le_refl _) hown' hgrow; have hc1 := hv1.cell; have hf1 := hv1.frozen)
    | fail)
   have hg := grown_of_below hb;have hkp := kp_append hv2 hr2 hgrow (show w.heap.size + 1 < w.heap.size + 4 by omega) hb3
   refine ⟨((KeepsFrom.of_grownBy hg (fun j e => by cases e)).trans (KeepsFrom.of_grownBy hg2 (fun j e => by cases e; have := HW3.out; omega))).trans (hk3.from _),
    (((KpD.refl _ _ _).of_below hb (by have := HM.out.lt; omega)).trans (kp_grown hg2 (by have := HM.out.lt; have := hb.size; omega) (by omega) (by omega))).trans hkp, ?_⟩
   have hm2 := (HM.out.kept hg (by simp)).kept hg2 (boxed_not_map (HS.out.on hb) (HM.out.kept hg (by simp)));have hBE : Below w.heap.size w W2 := (HB.out.trans (hb.mono HB.out.size)).grown hg2 (Nat.le_trans HB.out.size hb.size) (fun j e => by cases e; omega);rw [VI, HD.out];refine ⟨⟨_, hv3, by simpa using hr3⟩, ?_, ((hm2.alloc _).kept hgrow (hm2.not_row (by decide) hr2)).kept (grownBy_setCell' w1 _ _) (by simp), hBE.trans (hb3.mono (by omega))⟩;have hs3 := fun u => ((hs2.on (below_alloc W2 _)).grown hgrow (hs2.not_row hr2).symm).grown (grownBy_setCell' w1 (w.heap.size + 1) u) (by simp)
   simpa using hs3 _
 case done =>
  rintro D ys W hD rfl ⟨⟨v, hv, hrow⟩, hset, hmb, hB⟩ hK;have hc := hv.cell
  gi_wp2
  refine ⟨by simp, .inl ⟨_, _, rfl, run_takeDeferred hK, ?_⟩⟩;exact ⟨_, results_tmp rfl _ _ _, v, rfl, ownsRow_putObj hrow _ hK rfl, hB.trans (belowK_b (w := w) (Nat.le_refl _) W D _ _ (by omega) hK rfl rfl)⟩
 case stop =>
  rintro D c pre W _ _ h _;exact h.elim
theorem vars_any (t : Tm) (S : Nat → Prop) (w : World) (c0 c1 c2 c3 c4 c5 c6 : Value) (hS : ∀ k, S k → k < w.heap.size) (hrep : RepM S w t c0 c1 c2 c3 c4 c5 c6) (hfew : (varsM t).length ≤ 100000) :
  Calls Tryz.prog 17 #[.agg #[c0, c1, c2, c3, c4, c5, c6]] w
   fun e W' => ∃ v, e = .returned v ∧ W'.ownsRow (w.heap.size + 1) 9 1 v (ddN (namesL [t])).length ((ddN (namesL [t])).map fun x => Value.string x.1) ∧ Below w.heap.size w W' := by
 obtain ⟨fa, fc, ga, gc, rfl, rfl, rfl, rfl, rfl, rfl, rfl⟩ := hrep.form;exact callsIn_wide.1 (vars_in t w fa fc ga gc (RepM.on hS (fun _ _ => rfl) t hrep) hfew)
end Go.Proofs.YtjohcnhiblfbnaaGreat
namespace Go.Proofs.YtjohcnhiblfbnaaGreat
open Go.RowKit
def stepB (a : List ByteArray) (x : ByteArray) : List ByteArray := if inB a x = true then a else a ++ [x]
def ddF (a l : List ByteArray) : List ByteArray := l.foldl stepB a
theorem ddF_snoc (a l : List ByteArray) (x : ByteArray) : ddF a (l ++ [x]) = stepB (ddF a l) x := by rw [ddF, List.foldl_append]; rfl
theorem ddF_append (a l m : List ByteArray) : ddF a (l ++ m) = ddF (ddF a l) m := by rw [ddF, List.foldl_append]; rfl
theorem stepB_mem {a : List ByteArray} {x y : ByteArray} : y ∈ stepB a x ↔ y ∈ a ∨ y = x := by
 rw [stepB]
 split
 ·rename_i h
  have := inB_iff.1 h
  constructor
  ·exact .inl
  ·rintro (h | rfl)
   ·exact h
   ·exact this
 ·simp
theorem ddF_mem {l : List ByteArray} : ∀ {a : List ByteArray} {y : ByteArray}, y ∈ ddF a l ↔ y ∈ a ∨ y ∈ l := by
 induction l with
 | nil => intro a y; simp [ddF]
 | cons x l ih =>
  intro a y
  show y ∈ ddF (stepB a x) l ↔ _
  rw [ih, stepB_mem, List.mem_cons, or_assoc]
theorem ddF_twice (b : List ByteArray) : ∀ a : List ByteArray, ddF a (ddF [] b) = ddF a b := by
 suffices H : ∀ (n : Nat) (b : List ByteArray), b.length = n → ∀ a, ddF a (ddF [] b) = ddF a b from H _ b rfl
 intro n
 induction n with
 | zero => intro b hb a; rw [List.length_eq_zero_iff.1 hb]; rfl
 | succ n ih =>
  intro b hb a;have hne : b ≠ [] := by rintro rfl; simp at hb
  obtain ⟨c, x, rfl⟩ : ∃ c x, b = c ++ [x] := ⟨_, _, (List.dropLast_concat_getLast hne).symm⟩;have ihc := ih c (by simpa using hb);rw [ddF_snoc, ddF_snoc]
  by_cases hx : inB (ddF [] c) x = true
  ·have hm : x ∈ c := by
    have := ddF_mem.1 (inB_iff.1 hx)
    simpa using this
   have hs : stepB (ddF [] c) x = ddF [] c := by rw [stepB, if_pos hx]
   have hs2 : stepB (ddF a c) x = ddF a c := by rw [stepB, if_pos (inB_iff.2 (ddF_mem.2 (.inr hm)))]
   rw [hs, hs2, ihc]
  ·have hs : stepB (ddF [] c) x = ddF [] c ++ [x] := by rw [stepB, if_neg hx]
   rw [hs, ddF_snoc, ihc]
theorem ddF_le (l : List ByteArray) : ∀ a : List ByteArray, (ddF a l).length ≤ a.length + l.length := by
 induction l with
 | nil => intro a; simp [ddF]
 | cons x l ih =>
  intro a;have h : (stepB a x).length ≤ a.length + 1 := by rw [stepB]; split <;> simp
  have := ih (stepB a x)
  show (ddF (stepB a x) l).length ≤ _
  rw [List.length_cons];omega
theorem ddN_map (l : List Nm) : (ddN l).map (·.1) = ddF [] (l.map (·.1)) := by
 suffices H : ∀ (l : List Nm) (a : List Nm), ((l.foldl (fun a x => if inB (a.map (·.1)) x.1 = true then a else a ++ [x]) a).map (·.1)) = ddF (a.map (·.1)) (l.map (·.1)) from H l []
 intro l
 induction l with
 | nil => intro a; rfl
 | cons x l ih =>
  intro a
  show (List.map _ (l.foldl _ (if inB (a.map (·.1)) x.1 = true then a else a ++ [x]))) = ddF (stepB (a.map (·.1)) x.1) (l.map (·.1))
  rw [ih]
  congr 1
  rw [stepB]
  split
  ·rfl
  ·rw [List.map_append]; rfl
theorem fnArity_le (k : Nat) : fnArity k ≤ 2 := by
 match k with
 | 0 => decide
 | 1 => decide
 | 2 => decide
 | 3 => decide
 | 4 => decide
 | 5 => decide
 | 6 => decide
 | 7 => decide
 | 8 => decide
 | k + 9 => show (-1 : Int) ≤ 2; decide
theorem varsL_le {l : List Tm} {n : Nat} (h : ∀ t ∈ l, (varsM t).length ≤ n) : (varsL l).length ≤ l.length * n := by
 induction l with
 | nil => simp [varsL]
 | cons t l ih =>
  rw [varsL, List.length_append, List.length_cons, Nat.succ_mul];have := h t (by simp);have := ih (fun x hx => h x (by simp [hx]));omega
theorem vars_few : ∀ (d : Nat) (t : Tm), rightM d t = true → (varsM t).length ≤ 2 ^ d ∧ ∀ s ∈ varsM t, s.size ≤ 16
 | 0, t, h => by rw [rightM] at h; cases h
 | d + 1, .mk k s x l, h => by
  rw [rightM] at h;rw [varsM];have hp : 1 ≤ 2 ^ d := Nat.one_le_two_pow;have hp2 : 2 ^ (d + 1) = 2 * 2 ^ d := by rw [Nat.pow_succ]; omega
  by_cases h1 : k = 1
  ·rw [if_pos h1] at h ⊢
   simp only [Bool.and_eq_true, List.isEmpty_iff] at h
   rw [h.2.2];have hv := h.1;rw [varB, decide_eq_true_eq] at hv;refine ⟨by simp [varsL]; omega, fun y hy => ?_⟩;rw [varsL, List.append_nil, List.mem_singleton] at hy;rw [hy]; exact hv.2.1
  ·rw [if_neg h1] at h ⊢
   rw [List.nil_append]
   have key : (∀ y ∈ l, rightM d y = true) → l.length ≤ 2 → (varsL l).length ≤ 2 ^ (d + 1) ∧ ∀ s ∈ varsL l, s.size ≤ 16 := by
    intro hr hl;refine ⟨?_, ?_⟩
    ·have := varsL_le (n := 2 ^ d) (fun y hy => (vars_few d y (hr y hy)).1)
     have := Nat.mul_le_mul_right (2 ^ d) hl;omega
    ·clear hl h
     induction l with
     | nil => intro s hs; rw [varsL] at hs; cases hs
     | cons y l ih =>
      intro s hs;rw [varsL, List.mem_append] at hs;rcases hs with hs | hs
      ·exact (vars_few d y (hr y (by simp))).2 s hs
      ·exact ih (fun x hx => hr x (by simp [hx])) s hs
   by_cases h2 : k = 2
   ·rw [if_pos h2] at h
    simp only [Bool.and_eq_true, List.isEmpty_iff] at h
    rw [h.2.2]; simp [varsL]
   ·rw [if_neg h2] at h
    by_cases h3 : k = 3
    ·rw [if_pos h3] at h
     simp only [Bool.and_eq_true] at h
     obtain ⟨b1, b2, b3⟩ := listB_bounds h.2;have := fnArity_le (fnOf s);exact key b3 (by omega)
    ·rw [if_neg h3] at h
     by_cases h4 : k = 4
     ·rw [if_pos h4] at h
      simp only [Bool.and_eq_true] at h
      obtain ⟨b1, b2, b3⟩ := listB_bounds h.2.2;exact key b3 (by omega)
     ·rw [if_neg h4] at h; cases h
theorem names_map {l : List Tm} (h : ∀ s ∈ varsL l, s.size ≤ 16) : (namesL l).map (·.1) = varsL l := by
 rw [namesL, List.map_map]
 conv => rhs; rw [← List.map_id (varsL l)]
 exact List.map_congr_left fun s hs => nm_of (Nat.le_trans (h s hs) (by decide))
end Go.Proofs.YtjohcnhiblfbnaaGreat
namespace Go.Proofs.YtjohcnhiblfbnaaGreat
open Go.RowKit
theorem inB_eq (l : List ByteArray) (s : ByteArray) : inB l s = l.any fun x => x.toList == s.toList := by
 simp only [inB, Lib.toList_data]
set_option maxRecDepth 100000 in
set_option maxHeartbeats 1000000 in
theorem has6_any (l : List ByteArray) (s : ByteArray) (S : Nat → Prop) (w : World) (v : Value) (h : TxAt S w l v) :
  Calls Tryz.prog 44 #[v, .string s] w fun e w' => e = .returned (.bool (inB l s)) ∧ w = w' := by
 rw [inB_eq];have HB := Lib.hid h;have hlb := SlG.bytes h;have hlen : l.length ≤ 140737488355328 := by omega
 obtain ⟨f0, f1, rfl⟩ := SlG.form h;clear h hlb;go_enter Tryz.func44, Tryz.ntmps44
 go_wp2_with fail
 go_loop [5] (fun i => ∃ k : Nat, k ≤ l.length ∧ i = .int .i64 k ∧ Hid ((l.any fun x => x.toList == s.toList) = ((l.drop k).any fun x => x.toList == s.toList))) (fun i => l.length - (intOf i).toNat)
 case atStart => exact ⟨0, Nat.zero_le _, rfl, rfl⟩
 case round =>
  obtain ⟨k, hk, rfl, hrec⟩ := hrel
  by_cases hlt : k < l.length
  ·obtain ⟨-, -, b, o, rfl, -, c, hc, hx⟩ := SlG.at HB.out k hlt
   have q0 := hc 0 (by omega);rw [Nat.mul_one, Nat.add_zero, hx] at q0;have HD := Lib.hid (List.drop_eq_getElem_cons hlt);clear hc hx;generalize l[k] = z at *
   cases h1 : (z.toList == s.toList) with
   | true =>
    have HF : Hid ((l.any fun x => x.toList == s.toList) = true) := by show _ = _; rw [hrec.out, HD.out, List.any_cons, h1, Bool.true_or]
    go_wp2_with fail
    go_ret
    exact ⟨ret_bool HF.out.symm, rfl⟩
   | false =>
    have HF : Hid ((l.any fun x => x.toList == s.toList) = ((l.drop (k + 1)).any fun x => x.toList == s.toList)) := by show _ = _; rw [hrec.out, HD.out, List.any_cons, h1, Bool.false_or]
    go_wp2_with fail
    go_round
    case rel => exact ⟨k + 1, by omega, by go_num, HF⟩
    case measure => simp [intOf]; omega
  ·have HF : Hid ((l.any fun x => x.toList == s.toList) = false) := by show _ = _; rw [hrec.out, List.drop_of_length_le (by omega)]; rfl
   go_wp2_with fail
   go_ret
   exact ⟨ret_bool HF.out.symm, rfl⟩
set_option maxRecDepth 100000 in
set_option maxHeartbeats 1000000 in
theorem arity6_any (p : Pr) (s : ByteArray) (S : Nat → Prop) (w : World) (c0 c1 c2 : Value) (hS : ∀ k, S k → k < w.heap.size) (hp : RepPr S w p c0 c1 c2) :
  Calls Tryz.prog 15 #[.agg #[c0, c1, c2], .string s] w fun e w' => e = .returned (.int .i64 (arityL p.decls s)) ∧ Below w.heap.size w w' := by
 have hlb := SlG.bytes hp.1;have HA := Lib.hid hp.1;obtain ⟨f0, f1, rfl⟩ := SlG.form hp.1;obtain ⟨f2, f3, rfl⟩ := SlG.form hp.2.1;obtain ⟨f4, f5, rfl⟩ := SlG.form hp.2.2;clear hp;go_enter Tryz.func15, Tryz.ntmps15
 go_wp2_with fail
 have x0 := boxPr_new w (.slice f0 p.decls.length f1) (.slice f2 p.facts.length f3) (.slice f4 p.rules.length f5);have d0 := below_alloc w (.cells #[.slice f0 p.decls.length f1, .slice f2 p.facts.length f3, .slice f4 p.rules.length f5] 26);generalize w.alloc (.cells #[.slice f0 p.decls.length f1, .slice f2 p.facts.length f3, .slice f4 p.rules.length f5] 26) = w1 at *;obtain ⟨p0, p1, p2⟩ := x0.cells;have HD0 := Lib.hid d0;clear d0 x0;go_wp2_with fail
 go_loop [5] (fun i => ∃ k : Nat, k ≤ p.decls.length ∧ i = .int .i64 k ∧ Hid (arityL p.decls s = arityL (p.decls.drop k) s)) (fun i => p.decls.length - (intOf i).toNat)
 case atStart => exact ⟨0, Nat.zero_le _, rfl, rfl⟩
 case round =>
  obtain ⟨k, hk, rfl, hrec⟩ := hrel
  by_cases hl : k < p.decls.length
  ·have hA := (SlG.on (fun _ h => h) (fun j hj => HD0.out.block j (hS j hj)) (fun _ _ _ h => h) HA.out : RepDes S w1 p.decls (.slice f0 p.decls.length f1))
   obtain ⟨-, -, b, o, rfl, hSb, g0, g1, g⟩ := RepDes.at hA k hl;have HD := Lib.hid (List.drop_eq_getElem_cons hl);clear hA g hSb;generalize p.decls[k] = z at *
   cases hc : (z.name.toList == s.toList) with
   | true =>
    have HF : Hid (arityL p.decls s = z.arity) := by show _ = _; rw [hrec.out, HD.out, arityL, if_pos (show eqS z.name s = true from hc)]
    go_wp2_with fail
    go_ret
    exact ⟨ret_i HF.out.symm, HD0.out⟩
   | false =>
    have HF : Hid (arityL p.decls s = arityL (p.decls.drop (k + 1)) s) := by show _ = _; rw [hrec.out, HD.out, arityL, if_neg (by rw [eqS, hc]; decide)]
    go_wp2_with fail
    go_round
    case rel => exact ⟨k + 1, hl, by go_num, HF⟩
    case measure => simp [intOf]; omega
  ·have HF : Hid (arityL p.decls s = 0) := by show _ = _; rw [hrec.out, List.drop_of_length_le (by omega)]; rfl
   go_wp2_with fail
   go_ret
   exact ⟨ret_i HF.out.symm, HD0.out⟩
end Go.Proofs.YtjohcnhiblfbnaaGreat
