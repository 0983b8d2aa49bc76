/-
  ScVarsOf, BindVars, TxKit, SixVars, TxOfRow, NineRows
-/
import Derived.Test.YtjmnnjikmmglpaaKC26
import Derived.Test.YtjmnnjikmmglpaaKC10
import Derived.Test.YtjmnnjikmmglpaaKC21
import Derived.Test.YtjmnnjikmmglpaaKC03
import Derived.Test.YtjmnnjikmmglpaaKC17
import Derived.RangeFuncBox
import Derived.RangeFuncCalls
import Derived.Maps.OwnIn
import Derived.Maps.AppendAt
namespace Go.Proofs.Ytjmnnjikmmglpaa
open Go.RowKit Go.Shelf
attribute [local go_sem] Oper.semAt_some
def ddN (l : List Nm) : List Nm := l.foldl (fun a x => if inB (a.map (·.1)) x.1 = true then a else a ++ [x]) []
theorem ddN_hit {l : List Nm} {x : Nm} (h : inB ((ddN l).map (·.1)) x.1 = true) : ddN (l ++ [x]) = ddN l := by
 unfold ddN at h ⊢;rw [List.foldl_append, List.foldl_cons, List.foldl_nil, if_pos h]
theorem ddN_new {l : List Nm} {x : Nm} (h : inB ((ddN l).map (·.1)) x.1 = false) : ddN (l ++ [x]) = ddN l ++ [x] := by
 unfold ddN at h ⊢;rw [List.foldl_append, List.foldl_cons, List.foldl_nil, if_neg (by rw [h]; decide)]
theorem ddN_le (l : List Nm) : (ddN l).length ≤ l.length := by
 suffices H : ∀ (r : List Nm), r <+: l → (ddN r).length ≤ r.length from H l (List.prefix_refl l)
 intro r _
 induction hr : r.length generalizing r with
 | zero => rw [List.length_eq_zero_iff.1 hr]; simp [ddN]
 | succ n ih =>
  have hne : r ≠ [] := by intro h; rw [h] at hr; cases hr
  obtain ⟨s, x, rfl⟩ : ∃ s x, r = s ++ [x] := ⟨r.dropLast, r.getLast hne, (List.dropLast_concat_getLast hne).symm⟩;have h1 := ih s (by exact List.IsPrefix.trans (List.prefix_append _ _) ‹_›) (by simpa using hr)
  cases hc : inB ((ddN s).map (·.1)) x.1 with
  | true => rw [ddN_hit hc]; omega
  | false => rw [ddN_new hc, List.length_append, List.length_singleton]; omega
theorem infoStr : (Try.prog.info? 9).map (fun i => (i.zero, i.size, i.bytes)) = some (some (.string ⟨#[]⟩), 1, 16) := by kernel_rfl
theorem SetAt.not_row {w : World} {b n : Nat} {l : List ByteArray} (h : SetAt w b n l) {base : Nat} {e : TypeId} {size k : Nat} {v : Value} {xs : List Value} (hr : w.ownsRow base e size v k xs) : v.ownBlock ≠ some b := by
 intro he;rcases hr.2 with ⟨rfl, -⟩ | ⟨g, cap, cur, rfl, -, hg, -⟩
 ·simp [Value.ownBlock] at he
 ·obtain rfl : g = b := by simpa [Value.ownBlock] using he
  obtain ⟨es, clock, hb, -⟩ := h.1;rw [hg] at hb
  cases hb
theorem boxed_not_map {w : World} {b n : Nat} {l : List ByteArray} (h : SetAt w b n l) {k : Nat} {t : TypeId} {v : Value} (hb : Go.Boxed w k t v) : some k ≠ some b := by
 intro he;obtain rfl : k = b := Option.some.inj he;obtain ⟨es, clock, hm, -⟩ := h.1;rw [show w.heap[k]? = _ from hb] at hm
 cases hm
theorem own_none (v : Value) : v.ownBlock = none ∨ v.ownBlock ≠ (none : Option Nat) := by
 cases v.ownBlock <;> simp
theorem kp_grown {n₀ D b : Nat} {W W' : World} (hg : W.grownBy W' (some b)) (hn : n₀ ≤ W.heap.size) (hb : n₀ ≤ b) (hD : b < D) : KpD n₀ D W W' :=
 ⟨(Below.refl n₀ W).grown hg hn (fun k e => by cases e; exact hb), fun k o hk ho _ => (hg.block k (Array.getElem?_eq_some_iff.1 ho).1 (fun e => by cases e; omega)).trans ho⟩
theorem kp_append {n₀ D B : Nat} {t : TypeId} {W2 w1 : World} {v v' : Value} {k : Nat} {xs : List Value} {tmp : Obj} (hv : Go.Boxed W2 B t v) (hrow : W2.ownsRow n₀ 9 1 v k xs) (hgrow : (W2.alloc tmp).grownBy w1 v.ownBlock) (hB : B < D)
  (hb2 : Below n₀ W2 (w1.setCell ⟨B, 0, none⟩ v')) : KpD n₀ D W2 (w1.setCell ⟨B, 0, none⟩ v') := by
 refine ⟨hb2, fun j o hj ho hc => ?_⟩;have hlt := (Array.getElem?_eq_some_iff.1 ho).1
 have hne : some j ≠ v.ownBlock := by
  intro e;rcases hrow.2 with ⟨rfl, -⟩ | ⟨g, cap, cur, rfl, -, hg, -⟩
  ·simp [Value.ownBlock] at e
  ·obtain rfl : j = g := by simpa [Value.ownBlock] using e
   rw [hg] at ho
   cases ho
   simp [keptB] at hc
 exact (Below.heap_setCell w1 ⟨B, 0, none⟩ v' j (by show j ≠ B; omega)).trans ((hgrow.block j (by simp; omega) hne).trans ((Below.heap_alloc _ _ _ hlt).trans ho))
def VI (w : World) (pre : List Nm) (W : World) : Prop :=
 (∃ v, Go.Boxed W (w.heap.size + 1) 45 v ∧ W.ownsRow (w.heap.size + 1) 9 1 v (ddN pre).length ((ddN pre).map fun x => Value.string x.1)) ∧
  SetAt W (w.heap.size + 2) (ddN pre).length ((ddN pre).map (·.1)) ∧ Go.Boxed W (w.heap.size + 3) 68 (.map (some (w.heap.size + 2))) ∧ Below w.heap.size w W
theorem VI.own (w : World) (B : Nat) (hB : w.heap.size + 4 ≤ B) : OwnFrom B (VI w) := by
 rintro pre W W' row ⟨⟨v, hv, hr⟩, hs, hm, hb⟩ hg hrow
 have hc : ∀ k t u, Go.Boxed W k t u → some k ≠ row := fun k t u hk e => by
  obtain ⟨-, o, ho, hoc⟩ := hrow k e.symm;rw [show W.heap[k]? = _ from hk] at ho
  cases ho
  cases hoc
 have hr2 : W'.ownsRow (w.heap.size + 1) 9 1 v (ddN pre).length ((ddN pre).map fun x => Value.string x.1) := by
  refine hr.kept hg ?_;rcases hr.2 with ⟨rfl, -⟩ | ⟨g, cap, cur, rfl, -, hgg, -⟩
  ·exact .inl rfl
  ·refine .inr fun e => ?_
   have e' : row = some g := by rw [← e]; rfl
   obtain ⟨-, o, ho, hoc⟩ := hrow g e';rw [hgg] at ho
   cases ho
   cases hoc
 refine ⟨⟨v, hv.kept hg (hc _ _ _ hv), hr2⟩, hs.grown hg (fun e => ?_), hm.kept hg (hc _ _ _ hm), hb.grown hg hb.size (fun k e => ?_)⟩
 ·have := (hrow _ e.symm).1; omega
 ·have := (hrow _ e).1; omega
set_option maxRecDepth 100000 in
set_option maxHeartbeats 4000000 in
theorem vars_in (t : Tm) (w : World) (fa : Option Addr) (fc : Nat) (ga : Option Addr) (gc : Nat) (hrep : TmAt (fun k => k < w.heap.size) w t fa fc ga gc) (hfew : (varsM t).length ≤ 100000) :
  CallsIn Fence.wide 3 Try.prog 22 #[.agg #[.int .i64 t.kind, .string t.name, .int .i64 t.val.kind, .int .i64 t.val.num, .string t.val.text, .slice fa t.val.list.length fc, .slice ga t.args.length gc]] w
   fun e W' => ∃ v, e = .returned v ∧ W'.ownsRow (w.heap.size + 1) 9 1 v (ddN (namesL [t])).length ((ddN (namesL [t])).map fun x => Value.string x.1) ∧ Below w.heap.size w W' := by
 have h1 : 1 ≤ 3 := by omega
 obtain ⟨i0, hi, hz0, hz1, hz2⟩ := info_parts infoStr;have hmm := @run_makeMap Try.prog;refine callsIn_of_wp_marks Try.func22 rfl trivial ?_ rfl;simp only [Try.ntmps22, List.size_toArray, List.length_cons, List.length_nil, Nat.reduceAdd, Nat.reduceSub, Array.replicate_succ, Array.replicate_zero, List.push_toArray, List.append_toArray, List.nil_append, List.cons_append]
 gi_wp2_with ((try refine ⟨trivial, ?_⟩); gi_at_call 43; refine (variables_in Fence.wide _ trivial rfl _ _ _ _).mono ?_; rintro e w' ⟨rfl, rfl⟩)
 obtain ⟨T, hT⟩ : ∃ T, Obj.cells #[.int .i64 t.kind, .string t.name, .int .i64 t.val.kind, .int .i64 t.val.num, .string t.val.text, .slice fa t.val.list.length fc, .slice ga t.args.length gc] 30 = T := ⟨_, rfl⟩;rw [hT];have s1 : (w.alloc T).heap.size = w.heap.size + 1 := World.size_alloc _ _;have s2 : ((w.alloc T).alloc (.cells #[.slice none 0 0] 45)).heap.size = w.heap.size + 1 + 1 := by rw [World.size_alloc, s1]
 have s3 : (((w.alloc T).alloc (.cells #[.slice none 0 0] 45)).alloc (.map #[] 0)).heap.size = w.heap.size + 1 + 1 + 1 := by rw [World.size_alloc, s2]
 have s4 : ((((w.alloc T).alloc (.cells #[.slice none 0 0] 45)).alloc (.map #[] 0)).alloc (.cells #[.map (some (w.heap.size + 1 + 1))] 68)).heap.size = w.heap.size + 1 + 1 + 1 + 1 := by rw [World.size_alloc, s3]
 have s5 : (((((w.alloc T).alloc (.cells #[.slice none 0 0] 45)).alloc (.map #[] 0)).alloc (.cells #[.map (some (w.heap.size + 1 + 1))] 68)).alloc T).heap.size = w.heap.size + 1 + 1 + 1 + 1 + 1 := by rw [World.size_alloc, s4]
 have b1 := Go.Boxed.new (w.alloc T) 45 (.slice none 0 0);have m2 := setAt_new ((w.alloc T).alloc (.cells #[.slice none 0 0] 45));have b3 := Go.Boxed.new (((w.alloc T).alloc (.cells #[.slice none 0 0] 45)).alloc (.map #[] 0)) 68 (.map (some (w.heap.size + 1 + 1)));have x4 := boxM_new ((((w.alloc T).alloc (.cells #[.slice none 0 0] 45)).alloc (.map #[] 0)).alloc (.cells #[.map (some (w.heap.size + 1 + 1))] 68)) (.int .i64 t.kind) (.string t.name) (.int .i64 t.val.kind) (.int .i64 t.val.num) (.string t.val.text) (.slice fa t.val.list.length fc) (.slice ga t.args.length gc);rw [hT] at x4;have c5 := cell_new1 (((((w.alloc T).alloc (.cells #[.slice none 0 0] 45)).alloc (.map #[] 0)).alloc (.cells #[.map (some (w.heap.size + 1 + 1))] 68)).alloc T) (.slice (some ⟨w.heap.size + 1 + 1 + 1 + 1, 0, none⟩) 1 1) 22;rw [s1] at b1; rw [s2] at m2; rw [s3] at b3; rw [s4] at x4; rw [s5] at c5
 have hB0 : Below w.heap.size w ((((((w.alloc T).alloc (.cells #[.slice none 0 0] 45)).alloc (.map #[] 0)).alloc (.cells #[.map (some (w.heap.size + 1 + 1))] 68)).alloc T).alloc (.cells #[.slice (some ⟨w.heap.size + 1 + 1 + 1 + 1, 0, none⟩) 1 1] 22)) :=
  ((((((Below.refl _ w).alloc (Nat.le_refl _) _).alloc (by omega) _).alloc (by omega) _).alloc (by omega) _).alloc (by omega) _).alloc (by omega) _
 have s6 : ((((((w.alloc T).alloc (.cells #[.slice none 0 0] 45)).alloc (.map #[] 0)).alloc (.cells #[.map (some (w.heap.size + 1 + 1))] 68)).alloc T).alloc (.cells #[.slice (some ⟨w.heap.size + 1 + 1 + 1 + 1, 0, none⟩) 1 1] 22)).heap.size = w.heap.size + 6 := by rw [World.size_alloc, s5]
 replace b1 := ((((b1.alloc (.map #[] 0)).alloc (.cells #[.map (some (w.heap.size + 1 + 1))] 68)).alloc T).alloc (.cells #[.slice (some ⟨w.heap.size + 1 + 1 + 1 + 1, 0, none⟩) 1 1] 22));replace m2 := (((m2.on (below_alloc _ (.cells #[.map (some (w.heap.size + 1 + 1))] 68))).on (below_alloc _ T)).on (below_alloc _ (.cells #[.slice (some ⟨w.heap.size + 1 + 1 + 1 + 1, 0, none⟩) 1 1] 22)));replace b3 := ((b3.alloc T).alloc (.cells #[.slice (some ⟨w.heap.size + 1 + 1 + 1 + 1, 0, none⟩) 1 1] 22));replace x4 := x4.on (below_alloc _ (.cells #[.slice (some ⟨w.heap.size + 1 + 1 + 1 + 1, 0, none⟩) 1 1] 22));have c5c := c5.1;clear c5 s1 s2 s3 s4 s5;generalize ((((((w.alloc T).alloc (.cells #[.slice none 0 0] 45)).alloc (.map #[] 0)).alloc (.cells #[.map (some (w.heap.size + 1 + 1))] 68)).alloc T).alloc (.cells #[.slice (some ⟨w.heap.size + 1 + 1 + 1 + 1, 0, none⟩) 1 1] 22)) = W3 at *
 have hrepL : RepMs (SK (w.heap.size + 1) (w.heap.size + 4) W3) W3 [t] (.slice (some ⟨w.heap.size + 1 + 1 + 1 + 1, 0, none⟩) 1 1) := by
  refine ⟨some ⟨w.heap.size + 1 + 1 + 1 + 1, 0, none⟩, w.heap.size + 1 + 1 + 1 + 1, 0, 1, rfl, by simp, by simp, fun _ => rfl, fun _ => .inr ⟨by omega, _, x4, rfl⟩, fun i hi => ?_⟩;obtain rfl : i = 0 := by simpa using hi
  refine ⟨fun j => (#[.int .i64 t.kind, .string t.name, .int .i64 t.val.kind, .int .i64 t.val.num, .string t.val.text, .slice fa t.val.list.length fc, .slice ga t.args.length gc] : Array Value).getD j undef, fun j hj => ?_, RepM.on (fun k (hk : k < w.heap.size) => .inl (by omega)) (fun k hk => hB0.block k hk) t hrep⟩;obtain ⟨e0, e1, e2, e3, e4, e5, e6⟩ := x4.cells
  match j, hj with
  | 0, _ => exact e0
  | 1, _ => exact e1
  | 2, _ => exact e2
  | 3, _ => exact e3
  | 4, _ => exact e4
  | 5, _ => exact e5
  | 6, _ => exact e6
 have hvi : VI w [] W3 := ⟨⟨_, b1, World.ownsRow_nil _ _ _ _⟩, m2, b3, hB0⟩;clear hrep x4 hmm b1 m2 b3;have hnv : (namesL [t]).length ≤ 100000 := by rw [namesL_length, varsL, varsL, List.append_nil]; exact hfew
 refine wpIn_rangeFunc_ownG (F := Fence.wide) (n := 3) rfl h1 (gf := 60) (lb := #[.pointer (some ⟨w.heap.size + 1 + 1 + 1 + 1 + 1, 0, none⟩)]) rfl trivial (enters_of Try.func60 (by kernel_rfl) rfl)
  (vars_stops Fence.wide rfl 2 trivial trivial rfl (w.heap.size + 1 + 1 + 1 + 1 + 1) (w.heap.size + 1) (w.heap.size + 4) [t] _ W3 (by omega) (by omega) (by omega) c5c hrepL) KpD.trans (fun W l o o' hl hW ho _ => KpD.putObj W l o o' (by omega) hW ho) (Below.refl _ _) (fun _ => by rfl)
  (VI w) (fun _ _ _ => False) (VI.own w _ (by omega)) (fun _ _ _ _ _ hs _ _ => hs) hvi
  (fun x => { tmps := #[.agg #[.int .i64 t.kind, .string t.name, .int .i64 t.val.kind, .int .i64 t.val.num, .string t.val.text, .slice fa t.val.list.length fc, .slice ga t.args.length gc], .pointer (some ⟨w.heap.size, 0, none⟩), .slice none 0 0, .pointer (some ⟨w.heap.size + 1, 0, none⟩), .pointer (some ⟨w.heap.size + 1 + 1 + 1, 0, none⟩), .string x.1, .map (some (w.heap.size + 1 + 1)), .agg #[.int .i64 t.kind, .string t.name, .int .i64 t.val.kind, .int .i64 t.val.num, .string t.val.text, .slice fa t.val.list.length fc, .slice ga t.args.length gc], .slice (some ⟨w.heap.size + 1 + 1 + 1 + 1, 0, none⟩) 1 1, .func (.func 60) #[] #[.pointer (some ⟨w.heap.size + 1 + 1 + 1 + 1 + 1, 0, none⟩)], .string x.1, undef, undef, undef, undef, undef, undef, undef, undef, undef, undef, undef, undef], defers := [] }) ?assign ?body ?done ?stop
 case assign =>
  intro l x W K hK
  gi_wp2
  exact hK
 case body =>
  rintro l2 pre x W ⟨⟨v, hv, hrow⟩, hset, hmb, hB⟩ hpl;have hple : (ddN pre).length ≤ 100000 := Nat.le_trans (ddN_le pre) (by omega);have HW3 := Lib.hid s6;have hh := has_any (w.heap.size + 2) _ _ x.1 W x.2 hset;have HV := Lib.hid hv; have HR := Lib.hid hrow; have HS := Lib.hid hset; have HM := Lib.hid hmb; have HB := Lib.hid hB
  have hmc := hmb.cell
  cases ht : inB ((ddN pre).map (·.1)) x.1 with
  | true =>
   have HD := Lib.hid (ddN_hit ht);rw [ht] at hh;clear ht hv hrow hset hmb hB
   gi_wp2_with ((try refine ⟨trivial, ?_⟩); gi_at_call 44; refine (CallsIn.inRound l2 (callsIn_wide.2 hh)).mono ?_; clear hh; rintro e W' ⟨rfl, hb⟩)
   have hg := grown_of_below hb;refine ⟨KeepsFrom.of_grownBy hg (fun j e => by cases e), (KpD.refl _ _ _).of_below hb (by have := HB.out.size; have := HM.out.lt; omega), ?_⟩;rw [VI, HD.out];exact ⟨⟨v, HV.out.kept hg (by simp), HR.out.kept hg (own_none _)⟩, HS.out.on hb, HM.out.kept hg (by simp), HB.out.trans (hb.mono HB.out.size)⟩
  | false =>
   have HD := Lib.hid (ddN_new ht);rw [ht] at hh;clear ht hv hrow hset hmb hB
   gi_wp2_with (first
    | ((try refine ⟨trivial, ?_⟩); gi_at_call 44; refine (CallsIn.inRound l2 (callsIn_wide.2 hh)).mono ?_; clear hh; rintro e W' ⟨rfl, hb⟩; have hmc' := (HM.out.kept (grown_of_below hb) (by simp)).cell; have hadd := add_any (w.heap.size + 2) _ _ x.1 W' (by unfold maxLen; omega) x.2 (HS.out.on hb))
    | ((try refine ⟨trivial, ?_⟩); gi_at_call 45; refine (CallsIn.inRound l2 (callsIn_wide.2 hadd)).mono ?_; clear hadd; rintro e W2 ⟨rfl, hs2, hg2⟩; have hv2 := (HV.out.kept (grown_of_below hb) (by simp)).kept hg2 (boxed_not_map (HS.out.on hb) (HV.out.kept (grown_of_below hb) (by simp))); have hc2 := hv2.cell; have hr2 := (HR.out.kept (grown_of_below hb) (own_none _)).kept hg2 (.inr ((HS.out.on hb).not_row (HR.out.kept (grown_of_below hb) (own_none _)))))
    | (gi_at_builtin; refine wpListIn_append_own _ rfl _ _ 45 rfl (w.heap.size + 1) 9 i0 (.string ⟨#[]⟩) 1 16 Try.underlying45 hi hz0 hz1 hz2 rfl (by decide) _ _ _ rfl (hr2.alloc _) ⟨W2.heap.size, 0, none⟩ 1 1 [.string x.1] rfl rfl (cell_one_new _ _ _) (by simp [Value.oneCell']) (by unfold maxLen; omega) (by omega) (by have h1 := hv2.lt; simp; omega) ?_; intro v' w1 hown' hgrow _; obtain ⟨g', cap', rfl⟩ := ownsRow_succ hown'; obtain ⟨hv1, hv3, hr3, hk3, hb3⟩ := hv2.appended (by decide) hr2 (Nat.le_of_lt hv2.lt) (Nat.le_refl _) hown' hgrow; have hc1 := hv1.cell; have hf1 := hv1.frozen)
    | fail)
   have hg := grown_of_below hb;have hkp := kp_append hv2 hr2 hgrow (show w.heap.size + 1 < w.heap.size + 4 by omega) hb3
   refine ⟨((KeepsFrom.of_grownBy hg (fun j e => by cases e)).trans (KeepsFrom.of_grownBy hg2 (fun j e => by cases e; have := HW3.out; omega))).trans (hk3.from _),
    (((KpD.refl _ _ _).of_below hb (by have := HM.out.lt; omega)).trans (kp_grown hg2 (by have := HM.out.lt; have := hb.size; omega) (by omega) (by omega))).trans hkp, ?_⟩
   have hm2 := (HM.out.kept hg (by simp)).kept hg2 (boxed_not_map (HS.out.on hb) (HM.out.kept hg (by simp)));have hBE : Below w.heap.size w W2 := (HB.out.trans (hb.mono HB.out.size)).grown hg2 (Nat.le_trans HB.out.size hb.size) (fun j e => by cases e; omega);rw [VI, HD.out];refine ⟨⟨_, hv3, by simpa using hr3⟩, ?_, ((hm2.alloc _).kept hgrow (hm2.not_row (by decide) hr2)).kept (grownBy_setCell' w1 _ _) (by simp), hBE.trans (hb3.mono (by omega))⟩;have hs3 := fun u => ((hs2.on (below_alloc W2 _)).grown hgrow (hs2.not_row hr2).symm).grown (grownBy_setCell' w1 (w.heap.size + 1) u) (by simp)
   simpa using hs3 _
 case done =>
  rintro D ys W hD rfl ⟨⟨v, hv, hrow⟩, hset, hmb, hB⟩ hK;have hc := hv.cell
  gi_wp2
  refine ⟨by simp, .inl ⟨_, _, rfl, run_takeDeferred hK, ?_⟩⟩;exact ⟨_, results_tmp rfl _ _ _, v, rfl, ownsRow_putObj hrow _ hK rfl, hB.trans (belowK_b (w := w) (Nat.le_refl _) W D _ _ (by omega) hK rfl rfl)⟩
 case stop =>
  rintro D c pre W _ _ h _;exact h.elim
theorem vars_any (t : Tm) (S : Nat → Prop) (w : World) (c0 c1 c2 c3 c4 c5 c6 : Value) (hS : ∀ k, S k → k < w.heap.size) (hrep : RepM S w t c0 c1 c2 c3 c4 c5 c6) (hfew : (varsM t).length ≤ 100000) :
  Calls Try.prog 22 #[.agg #[c0, c1, c2, c3, c4, c5, c6]] w
   fun e W' => ∃ v, e = .returned v ∧ W'.ownsRow (w.heap.size + 1) 9 1 v (ddN (namesL [t])).length ((ddN (namesL [t])).map fun x => Value.string x.1) ∧ Below w.heap.size w W' := by
 obtain ⟨fa, fc, ga, gc, rfl, rfl, rfl, rfl, rfl, rfl, rfl⟩ := hrep.form;exact callsIn_wide.1 (vars_in t w fa fc ga gc (RepM.on hS (fun _ _ => rfl) t hrep) hfew)
end Go.Proofs.Ytjmnnjikmmglpaa
namespace Go.Proofs.Ytjmnnjikmmglpaa
mutual
theorem evalM_cong (E F : List Bd) : ∀ (t : Tm), (∀ s ∈ varsM t, lookZ s E = lookZ s F) → evalM E t = evalM F t
 | .mk k s v l, h => by
  rw [evalM_mk, evalM_mk];rw [varsM] at h
  by_cases h1 : k = 1
  ·rw [if_pos h1, if_pos h1]
   exact h s (List.mem_append_left _ (by rw [if_pos h1]; exact List.mem_singleton_self _))
  ·rw [if_neg h1, if_neg h1, evalL_cong E F l (fun s hs => h s (List.mem_append_right _ hs))]
theorem evalL_cong (E F : List Bd) : ∀ (l : List Tm), (∀ s ∈ varsL l, lookZ s E = lookZ s F) → evalL E l = evalL F l
 | [], _ => by rw [evalL_nil, evalL_nil]
 | t :: l, h => by
  rw [varsL] at h;rw [evalL_cons, evalL_cons, evalM_cong E F t (fun s hs => h s (List.mem_append_left _ hs)), evalL_cong E F l (fun s hs => h s (List.mem_append_right _ hs))]
end
theorem evalL_all (E : List Bd) : ∀ (l : List Tm) (m : List V), evalL E l = some m → ∀ t ∈ l, ∃ x, evalM E t = some x
 | [], _, _, t, ht => by cases ht
 | a :: l, m, h, t, ht => by
  rw [evalL_cons] at h
  cases ha : evalM E a with
  | none => rw [ha] at h; cases h
  | some x =>
   rw [ha] at h
   cases hl : evalL E l with
   | none => rw [hl] at h; cases h
   | some m' =>
    rcases List.mem_cons.1 ht with rfl | ht
    ·exact ⟨x, ha⟩
    ·exact evalL_all E l m' hl t ht
theorem varsL_mem {s : ByteArray} : ∀ {l : List Tm}, s ∈ varsL l → ∃ t ∈ l, s ∈ varsM t
 | [], h => by rw [varsL] at h; cases h
 | t :: l, h => by
  rw [varsL] at h;rcases List.mem_append.1 h with h | h
  ·exact ⟨t, List.mem_cons_self, h⟩
  ·obtain ⟨u, hu, h⟩ := varsL_mem h
   exact ⟨u, List.mem_cons_of_mem _ hu, h⟩
theorem evalM_has (E : List Bd) : ∀ (d : Nat) (t : Tm) (x : V), rightM d t = true → evalM E t = some x → ∀ s ∈ varsM t, lookZ s E ≠ none
 | 0, t, x, hr, _, _, _ => by rw [rightM] at hr; cases hr
 | d + 1, .mk k n v l, x, hr, h, s, hs => by
  rw [evalM_mk] at h;rw [rightM] at hr;rw [varsM] at hs
  by_cases h1 : k = 1
  ·rw [if_pos h1] at hr h hs
   simp only [Bool.and_eq_true, List.isEmpty_iff] at hr
   rw [hr.2.2, varsL, List.append_nil, List.mem_singleton] at hs;subst hs;rw [h]; intro hc; cases hc
  ·rw [if_neg h1] at hr h hs
   rw [List.nil_append] at hs
   by_cases h2 : k = 2
   ·rw [if_pos h2] at hr
    simp only [Bool.and_eq_true, List.isEmpty_iff] at hr
    rw [hr.2.2, varsL] at hs; cases hs
   ·rw [if_neg h2] at hr h
    have key : (∀ u ∈ l, rightM d u = true) → (∃ m, evalL E l = some m) → lookZ s E ≠ none := fun hr' ⟨m, hm⟩ => by
     obtain ⟨u, hu, hsu⟩ := varsL_mem hs;obtain ⟨y, hy⟩ := evalL_all E l m hm u hu;exact evalM_has E d u y (hr' u hu) hy s hsu
    by_cases h3 : k = 3
    ·rw [if_pos h3] at hr h
     simp only [Bool.and_eq_true] at hr
     exact key (listB_bounds hr.2).2.2 (by cases hl : evalL E l with | none => rw [hl] at h; cases h | some m => exact ⟨m, rfl⟩)
    ·rw [if_neg h3] at hr h
     by_cases h4 : k = 4
     ·rw [if_pos h4] at hr h
      simp only [Bool.and_eq_true] at hr
      exact key (listB_bounds hr.2.2).2.2 (by cases hl : evalL E l with | none => rw [hl] at h; cases h | some m => exact ⟨m, rfl⟩)
     ·rw [if_neg h4] at h; cases h
end Go.Proofs.Ytjmnnjikmmglpaa
namespace Go.Proofs.Ytjmnnjikmmglpaa
open Go.RowKit
def TxAt (S : Nat → Prop) (w : World) (l : List ByteArray) (v : Value) : Prop := SlG S w 1 16 (fun x c => c 0 = .string x) l v
end Go.Proofs.Ytjmnnjikmmglpaa
namespace Go.Proofs.Ytjmnnjikmmglpaa
open Go.RowKit
def stepB (a : List ByteArray) (x : ByteArray) : List ByteArray := if inB a x = true then a else a ++ [x]
def ddF (a l : List ByteArray) : List ByteArray := l.foldl stepB a
theorem stepB_mem {a : List ByteArray} {x y : ByteArray} : y ∈ stepB a x ↔ y ∈ a ∨ y = x := by
 rw [stepB]
 split
 ·rename_i h
  have := inB_iff.1 h
  constructor
  ·exact .inl
  ·rintro (h | rfl)
   ·exact h
   ·exact this
 ·simp
theorem ddF_mem {l : List ByteArray} : ∀ {a : List ByteArray} {y : ByteArray}, y ∈ ddF a l ↔ y ∈ a ∨ y ∈ l := by
 induction l with
 | nil => intro a y; simp [ddF]
 | cons x l ih =>
  intro a y
  show y ∈ ddF (stepB a x) l ↔ _
  rw [ih, stepB_mem, List.mem_cons, or_assoc]
theorem ddF_le (l : List ByteArray) : ∀ a : List ByteArray, (ddF a l).length ≤ a.length + l.length := by
 induction l with
 | nil => intro a; simp [ddF]
 | cons x l ih =>
  intro a;have h : (stepB a x).length ≤ a.length + 1 := by rw [stepB]; split <;> simp
  have := ih (stepB a x)
  show (ddF (stepB a x) l).length ≤ _
  rw [List.length_cons];omega
theorem ddN_map (l : List Nm) : (ddN l).map (·.1) = ddF [] (l.map (·.1)) := by
 suffices H : ∀ (l : List Nm) (a : List Nm), ((l.foldl (fun a x => if inB (a.map (·.1)) x.1 = true then a else a ++ [x]) a).map (·.1)) = ddF (a.map (·.1)) (l.map (·.1)) from H l []
 intro l
 induction l with
 | nil => intro a; rfl
 | cons x l ih =>
  intro a
  show (List.map _ (l.foldl _ (if inB (a.map (·.1)) x.1 = true then a else a ++ [x]))) = ddF (stepB (a.map (·.1)) x.1) (l.map (·.1))
  rw [ih]
  congr 1
  rw [stepB]
  split
  ·rfl
  ·rw [List.map_append]; rfl
theorem fnArity_le (k : Nat) : fnArity k ≤ 2 := by
 match k with
 | 0 => decide
 | 1 => decide
 | 2 => decide
 | 3 => decide
 | 4 => decide
 | 5 => decide
 | 6 => decide
 | 7 => decide
 | 8 => decide
 | k + 9 => show (-1 : Int) ≤ 2; decide
theorem varsL_le {l : List Tm} {n : Nat} (h : ∀ t ∈ l, (varsM t).length ≤ n) : (varsL l).length ≤ l.length * n := by
 induction l with
 | nil => simp [varsL]
 | cons t l ih =>
  rw [varsL, List.length_append, List.length_cons, Nat.succ_mul];have := h t (by simp);have := ih (fun x hx => h x (by simp [hx]));omega
theorem vars_few : ∀ (d : Nat) (t : Tm), rightM d t = true → (varsM t).length ≤ 2 ^ d ∧ ∀ s ∈ varsM t, s.size ≤ 16
 | 0, t, h => by rw [rightM] at h; cases h
 | d + 1, .mk k s x l, h => by
  rw [rightM] at h;rw [varsM];have hp : 1 ≤ 2 ^ d := Nat.one_le_two_pow;have hp2 : 2 ^ (d + 1) = 2 * 2 ^ d := by rw [Nat.pow_succ]; omega
  by_cases h1 : k = 1
  ·rw [if_pos h1] at h ⊢
   simp only [Bool.and_eq_true, List.isEmpty_iff] at h
   rw [h.2.2];have hv := h.1;rw [varB, decide_eq_true_eq] at hv;refine ⟨by simp [varsL]; omega, fun y hy => ?_⟩;rw [varsL, List.append_nil, List.mem_singleton] at hy;rw [hy]; exact hv.2.1
  ·rw [if_neg h1] at h ⊢
   rw [List.nil_append]
   have key : (∀ y ∈ l, rightM d y = true) → l.length ≤ 2 → (varsL l).length ≤ 2 ^ (d + 1) ∧ ∀ s ∈ varsL l, s.size ≤ 16 := by
    intro hr hl;refine ⟨?_, ?_⟩
    ·have := varsL_le (n := 2 ^ d) (fun y hy => (vars_few d y (hr y hy)).1)
     have := Nat.mul_le_mul_right (2 ^ d) hl;omega
    ·clear hl h
     induction l with
     | nil => intro s hs; rw [varsL] at hs; cases hs
     | cons y l ih =>
      intro s hs;rw [varsL, List.mem_append] at hs;rcases hs with hs | hs
      ·exact (vars_few d y (hr y (by simp))).2 s hs
      ·exact ih (fun x hx => hr x (by simp [hx])) s hs
   by_cases h2 : k = 2
   ·rw [if_pos h2] at h
    simp only [Bool.and_eq_true, List.isEmpty_iff] at h
    rw [h.2.2]; simp [varsL]
   ·rw [if_neg h2] at h
    by_cases h3 : k = 3
    ·rw [if_pos h3] at h
     simp only [Bool.and_eq_true] at h
     obtain ⟨b1, b2, b3⟩ := listB_bounds h.2;have := fnArity_le (fnOf s);exact key b3 (by omega)
    ·rw [if_neg h3] at h
     by_cases h4 : k = 4
     ·rw [if_pos h4] at h
      simp only [Bool.and_eq_true] at h
      obtain ⟨b1, b2, b3⟩ := listB_bounds h.2.2;exact key b3 (by omega)
     ·rw [if_neg h4] at h; cases h
theorem names_map {l : List Tm} (h : ∀ s ∈ varsL l, s.size ≤ 16) : (namesL l).map (·.1) = varsL l := by
 rw [namesL, List.map_map]
 conv => rhs; rw [← List.map_id (varsL l)]
 exact List.map_congr_left fun s hs => nm_of (Nat.le_trans (h s hs) (by decide))
end Go.Proofs.Ytjmnnjikmmglpaa
namespace Go.Proofs.Ytjmnnjikmmglpaa
open Go.RowKit
theorem txAt_of_row {S : Nat → Prop} {w : World} {base n : Nat} {t : TypeId} {v : Value} {l : List ByteArray} (h : w.ownsRow base t 1 v n (l.map Value.string)) (hS : ∀ k, base ≤ k → k < w.heap.size → S k) (hl : l.length ≤ 1000000) : TxAt S w l v ∧ n = l.length := by
 obtain ⟨hlen, hown⟩ := h;have hn : n = l.length := by rw [List.length_map] at hlen; omega
 refine ⟨?_, hn⟩;subst hn;rcases hown with ⟨rfl, h0⟩ | ⟨g, cap, cur, rfl, hbg, hh, hnc, hcm, hcs, htk⟩
 ·obtain rfl : l = [] := List.length_eq_zero_iff.1 h0
  exact ⟨none, 0, 0, 0, rfl, Nat.le_refl _, by simp, fun h => by omega, fun h => by simp at h, fun i hi => by simp at hi⟩
 ·have hgl := (Array.getElem?_eq_some_iff.1 hh).1
  refine ⟨_, g, 0, cap, rfl, hnc, by omega, fun _ => rfl, fun _ => hS g hbg hgl, fun i hi => ⟨fun _ => .string l[i], fun j hj => ?_, rfl⟩⟩;obtain rfl : j = 0 := by omega
  have h1 : (l.map Value.string)[i]? = some (.string l[i]) := by rw [List.getElem?_map, List.getElem?_eq_getElem hi]; rfl
  rw [← htk, List.getElem?_take] at h1;rw [if_pos (by omega)] at h1;rw [show 0 + i * 1 + 0 = i by omega];exact cell_of_block' hh _ (by rw [← Array.getElem?_toList]; exact h1)
end Go.Proofs.Ytjmnnjikmmglpaa
namespace Go.Proofs.Ytjmnnjikmmglpaa
open Go.RowKit
theorem append_twice {w : World} {E : List Bd} {a : Option Addr} {c : Nat} (h : RepBs (fun b => b < w.heap.size) w E (.slice a E.length c)) (hl : E.length ≤ 1000) (ty : TypeId) :
  ∃ (a6 : Option Addr) (c6 : Nat) (w6 : World) (a7 : Option Addr) (c7 : Nat) (w7 : World), (Builtin.append_ #[24, 24] ty #[.slice none 0 0, .slice a E.length c]).run Try.prog w = .ok (.slice a6 E.length c6) w6 ∧
   (Builtin.append_ #[24, 24] ty #[.slice a6 E.length c6, .slice a E.length c]).run Try.prog w6 = .ok (.slice a7 (E ++ E).length c7) w7 ∧ RepBs (fun b => b < w7.heap.size) w7 (E ++ E) (.slice a7 (E ++ E).length c7) ∧ Below w.heap.size w w7 := by
 obtain ⟨v6, w6, hrun6, hown6, hgr6, -⟩ := own_manyH (K := kdB) (S := fun b => b < w.heap.size) (S1 := fun b => b < w.heap.size) (L := []) (m := E) (lv := .slice none 0 0) (w := w) (base := w.heap.size) (OwnK.nil _ _ _) h (fun k hk => ⟨hk, by simp [Value.ownBlock]⟩) (Nat.le_refl _) (by simp; omega) ty;have hb6 : Below w.heap.size w w6 := ⟨hgr6.os, hgr6.tape, hgr6.output, hgr6.size, fun k hk => hgr6.block k hk (by simp [Value.ownBlock])⟩;rw [List.nil_append] at hown6;obtain ⟨a6, c6, rfl⟩ := OwnK.form hown6;have h6 : RepBs (fun b => b < w.heap.size) w6 E (.slice a E.length c) := RepBs.on (fun _ h => h) (fun k hk => hb6.block k hk) h;obtain ⟨v7, w7, hrun7, hown7, hgr7, -⟩ := own_manyH (K := kdB) (S := fun b => b < w.heap.size) (S1 := fun b => b < w.heap.size) (L := E) (m := E) (base := w.heap.size) hown6 h6 (fun k hk => ⟨Nat.lt_of_lt_of_le hk hb6.size, fun e => by have := (OwnK.lies hown6 k e).1; omega⟩) hb6.size (by omega) ty;obtain ⟨a7, c7, rfl⟩ := OwnK.form hown7;refine ⟨a6, c6, w6, a7, c7, w7, hrun6, hrun7, ?_, ?_⟩
 ·exact SlG.on (fun k hk => by rcases hk with hk | hk; exact Nat.lt_of_lt_of_le hk (Nat.le_trans hb6.size hgr7.size); exact hk.2) (fun _ _ => rfl) (fun _ _ _ h => kdB.on (fun k hk => by rcases hk with hk | hk; exact Nat.lt_of_lt_of_le hk (Nat.le_trans hb6.size hgr7.size); exact hk.2) (fun _ _ => rfl) h) (OwnK.slgS hown7 (by show (E ++ E).length * 72 ≤ _; rw [List.length_append]; omega))
 ·exact ⟨hgr7.os.trans hb6.os, hgr7.tape.trans hb6.tape, hgr7.output.trans hb6.output, Nat.le_trans hb6.size hgr7.size, fun k hk => (hgr7.block k (Nat.lt_of_lt_of_le hk hb6.size) (fun e => by have := (OwnK.lies hown6 k e.symm).1; omega)).trans (hb6.block k hk)⟩
theorem append_ahead {w : World} {E : List Bd} {y : Bd} {a : Option Addr} {c : Nat} {c0 c1 c2 c3 c4 : Value} (hy : RepB (fun b => b < w.heap.size) w y c0 c1 c2 c3 c4) (h : RepBs (fun b => b < w.heap.size) w E (.slice a E.length c)) (hl : E.length ≤ 1000) (ty : TypeId) :
  ∃ (a6 : Option Addr) (c6 : Nat) (w6 : World), (Builtin.append_ #[24, 24] ty #[.slice (some ⟨w.heap.size, 0, none⟩) 1 1, .slice a E.length c]).run Try.prog (w.alloc (.cells #[c0, c1, c2, c3, c4] 43)) = .ok (.slice a6 (y :: E).length c6) w6 ∧
   RepBs (fun b => b < w6.heap.size) w6 (y :: E) (.slice a6 (y :: E).length c6) ∧ Below w.heap.size w w6 := by
 have d0 := below_alloc w (.cells #[c0, c1, c2, c3, c4] 43);have s0 := World.size_alloc w (.cells #[c0, c1, c2, c3, c4] 43);have m0 := alloc_new' w (.cells #[c0, c1, c2, c3, c4] 43)
 have hown : OwnK kdB (fun b => b < w.heap.size) (w.alloc (.cells #[c0, c1, c2, c3, c4] 43)) w.heap.size [y] (.slice (some ⟨w.heap.size, 0, none⟩) 1 1) :=
  ⟨[c0, c1, c2, c3, c4], ⟨rfl, .inr ⟨w.heap.size, 1, #[c0, c1, c2, c3, c4], rfl, Nat.le_refl _, m0, Nat.le_refl _, by unfold maxLen; omega, rfl, rfl⟩⟩, fun i hi => by
   obtain rfl : i = 0 := by simpa using hi
   exact ⟨fun j => [c0, c1, c2, c3, c4].getD j undef, fun j hj => match j, hj with | 0, _ => rfl | 1, _ => rfl | 2, _ => rfl | 3, _ => rfl | 4, _ => rfl, kdB.on (fun _ h => h) (fun k hk => d0.block k hk) (show kdB.R _ _ y _ from hy)⟩⟩
 have h0 : RepBs (fun b => b < w.heap.size) (w.alloc (.cells #[c0, c1, c2, c3, c4] 43)) E (.slice a E.length c) := RepBs.on (fun _ h => h) (fun k hk => d0.block k hk) h;obtain ⟨v6, w6, hrun6, hown6, hgr6, -⟩ := own_manyH (K := kdB) (S := fun b => b < w.heap.size) (S1 := fun b => b < w.heap.size) (m := E) hown h0 (fun k hk => ⟨by omega, fun e => by have := (OwnK.lies hown k e).1; omega⟩) (by omega) (by simp; omega) ty;obtain ⟨a6, c6, rfl⟩ := OwnK.form hown6;refine ⟨a6, c6, w6, hrun6, ?_, ?_⟩
 ·exact SlG.on (fun k hk => by have := hgr6.size; rcases hk with hk | hk; omega; exact hk.2) (fun _ _ => rfl) (fun _ _ _ h => kdB.on (fun k hk => by have := hgr6.size; rcases hk with hk | hk; omega; exact hk.2) (fun _ _ => rfl) h) (OwnK.slgS hown6 (by show ([y] ++ E).length * 72 ≤ _; rw [List.length_append, List.length_singleton]; omega))
 ·exact ⟨hgr6.os.trans d0.os, hgr6.tape.trans d0.tape, hgr6.output.trans d0.output, Nat.le_trans d0.size hgr6.size, fun k hk => (hgr6.block k (by omega) (fun e => by have := (OwnK.lies hown k e.symm).1; omega)).trans (d0.block k hk)⟩
def allB (E : List Bd) (l : List ByteArray) : Bool := l.all fun s => (lookZ s E).isSome
theorem allB_take (E : List Bd) (l : List ByteArray) {k : Nat} (h : k < l.length) : allB E (l.take (k + 1)) = (allB E (l.take k) && (lookZ l[k] E).isSome) := by
 rw [allB, allB, List.take_succ_eq_append_getElem h, List.all_append];simp
theorem names_of (d : Nat) (u : Tm) (h : rightM d u = true) : (ddN (namesL [u])).map (fun z => Value.string z.1) = (ddF [] (varsM u)).map Value.string := by
 have h1 : varsL [u] = varsM u := by rw [varsL, varsL, List.append_nil]
 have h2 := names_map (l := [u]) (by rw [h1]; exact (vars_few d u h).2);rw [h1] at h2;have h3 := ddN_map (namesL [u]);rw [h2] at h3;rw [← h3, List.map_map];rfl
theorem names_have (u : Tm) (s : ByteArray) (h : s ∈ varsM u) : s ∈ ddF [] (varsM u) := ddF_mem.2 (.inr h)
theorem eval_twice (E : List Bd) (u : Tm) : evalM (E ++ E) u = evalM E u := evalM_cong _ _ u (fun s _ => lookZ_twice s E)
theorem eval_ahead (E : List Bd) (u : Tm) (n : ByteArray) (x : V) (h : ∀ s ∈ ddF [] (varsM u), (s.toList == n.toList) = false) : evalM ((n, x) :: E) u = evalM E u :=
 evalM_cong _ _ u (fun s hs => lookZ_ahead E x (by
  have := h s (names_have u s hs);rw [Bool.eq_false_iff] at this ⊢
  intro e; apply this; rw [beq_iff_eq] at e ⊢; exact e.symm))
theorem all_there (E : List Bd) (d : Nat) (u : Tm) (x : V) (hr : rightM d u = true) (h : evalM E u = some x) : allB E (ddF [] (varsM u)) = true := by
 rw [allB, List.all_eq_true];intro s hs
 have h1 : s ∈ varsM u := by
  rcases ddF_mem.1 hs with h | h
  ·cases h
  ·exact h
 have h2 := evalM_has E d u x hr h s h1
 cases hl : lookZ s E with
 | none => exact absurd hl h2
 | some y => rfl
end Go.Proofs.Ytjmnnjikmmglpaa
