/-
  GrOwn, GrPre, GrNone, GrStep
-/
import Derived.Test.YtpnaegohjbaggaaKD14
namespace Go.Proofs.Ytpnaegohjbaggaa
open Go.RowKit
abbrev Cow := Cel × Nat × Nat
def Iv (a : Cow) (b : Nat) : Prop := a.2.1 ≤ b ∧ b < a.2.2
def OwnC (w : World) (a : Cow) : Prop := a.2.2 ≤ w.heap.size ∧ OwnArgs (Iv a) w a.1.1.args a.1.2 ∧ a.1.1.name.size ≤ maxLen ∧ I64 a.1.1.stamp
def Apart (l : List Cow) : Prop := l.Pairwise fun a b => ∀ k, Iv a k → ¬ Iv b k
theorem OwnC.on {w w' : World} {a : Cow} (h : OwnC w a) (hs : w.heap.size ≤ w'.heap.size) (hw : ∀ k, Iv a k → w'.heap[k]? = w.heap[k]?) : OwnC w' a :=
 ⟨Nat.le_trans h.1 hs, OwnArgs.on (fun _ h => h) hw h.2.1, h.2.2⟩
theorem OwnC.rep {w : World} {a : Cow} (h : OwnC w a) : RepRo (Iv a) w a.1.1 (.string a.1.1.name) a.1.2 (.int .i64 a.1.1.stamp) := ⟨rfl, h.2.2.1, h.2.1.rep, rfl, h.2.2.2⟩
theorem perm_lift {α β : Type} (f : α → β) {m n : List β} (h : m.Perm n) : ∀ l : List α, l.map f = n → ∃ l' : List α, l'.Perm l ∧ l'.map f = m := by
 induction h with
 | nil => intro l hl; exact ⟨l, List.Perm.refl _, hl⟩
 | cons x h ih =>
  intro l hl
  cases l with
  | nil => simp at hl
  | cons a l =>
   simp only [List.map_cons, List.cons.injEq] at hl
   obtain ⟨l', h1, h2⟩ := ih l hl.2;exact ⟨a :: l', List.Perm.cons a h1, by rw [List.map_cons, h2, hl.1]⟩
 | swap x y l0 =>
  intro l hl
  match l, hl with
  | a :: b :: l, hl =>
   simp only [List.map_cons, List.cons.injEq] at hl
   exact ⟨b :: a :: l, List.Perm.swap a b l, by simp [hl.1, hl.2.1, hl.2.2]⟩
 | trans h1 h2 ih1 ih2 =>
  intro l hl;obtain ⟨l1, e1, e2⟩ := ih2 l hl;obtain ⟨l2, e3, e4⟩ := ih1 l1 e2;exact ⟨l2, e3.trans e1, e4⟩
theorem Apart.perm {l m : List Cow} (h : Apart l) (hp : m.Perm l) : Apart m := (List.Perm.pairwise_iff (fun h k h1 h2 => h k h2 h1) hp).2 h
theorem cows_of {B g : Nat} {l : List Ro} {w : World} (h : RowsTo (fun _ => False) B g l l.length w) : ∃ (LC : List Cow) (n : Nat), LC.map (fun a => a.1.1) = l ∧ Apart LC ∧ (∀ a ∈ LC, g < a.2.1 ∧ OwnC w a) ∧ RowsAt w g n (LC.map (·.1)) ∧ B ≤ g := by
 obtain ⟨cs, N, h1, h2, h3, h4, h5, h6, h7⟩ := h
 have h8 : ∀ j : Fin l.length, ∃ v, cs[j.val * 3]? = some (.string l[j].name) ∧ cs[j.val * 3 + 1]? = some v ∧ cs[j.val * 3 + 2]? = some (.int .i64 l[j].stamp) ∧ l[j].name.size ≤ maxLen ∧ I64 l[j].stamp ∧ OwnArgs (fun b => N j.val ≤ b ∧ b < N (j.val + 1)) w l[j].args v := fun j => by
  obtain ⟨xa, xc, g0, g1, g2, g3, g4, g5, -⟩ := h7 j.val j.isLt;exact ⟨_, g0, g1, g2, g3, g4, g5 j.isLt⟩
 obtain ⟨f, hf⟩ := Classical.axiomOfChoice h8
 let LC : List Cow := List.ofFn fun j : Fin l.length => ((l[j], f j), N j.val, N (j.val + 1))
 have hlen : LC.length = l.length := List.length_ofFn;have hget : ∀ i (h : i < LC.length), LC[i] = ((l[i]'(by omega), f ⟨i, by omega⟩), N i, N (i + 1)) := fun i h => by simp [LC]
 refine ⟨LC, cs.size, ?_, ?_, fun a ha => ?_, ⟨⟨cs, h1, rfl⟩, by rw [List.length_map, hlen]; exact h2, fun j hj => ?_⟩, h3⟩
 ·apply List.ext_getElem
  ·rw [List.length_map, hlen]
  ·intro i e1 e2
   rw [List.getElem_map, hget]
 ·refine List.pairwise_iff_getElem.2 fun i j hi hj hij k hk => ?_
  rw [hget i hi] at hk;rw [hget j hj];have := mono_le h5 (i + 1) j (by omega) (by omega);intro hk2;have e1 : k < N (i + 1) := hk.2;have e2 : N j ≤ k := hk2.1;omega
 ·obtain ⟨i, hi, rfl⟩ := List.getElem_of_mem ha
  rw [hget i hi];rw [hlen] at hi;obtain ⟨-, -, -, e3, e4, e5⟩ := hf ⟨i, hi⟩;refine ⟨Nat.lt_of_lt_of_le h4 (mono_le h5 0 i (Nat.zero_le _) (by omega)), Nat.le_trans (mono_le h5 (i + 1) l.length (by omega) (Nat.le_refl _)) h6, e5, e3, e4⟩
 ·rw [List.length_map] at hj
  rw [List.getElem_map, hget j hj];rw [hlen] at hj;obtain ⟨e0, e1, e2, -⟩ := hf ⟨j, hj⟩;exact ⟨cell_of_block' h1 _ e0, cell_of_block' h1 _ e1, cell_of_block' h1 _ e2⟩
theorem own_put {a : Cow} {w : World} {n : Nat} {u : V} {c0 c1 c2 c3 : Value} {S : Nat → Prop} (h : OwnC w a) (hn : n < a.1.1.args.length) (hu : RepG S w u c0 c1 c2 c3) :
  ∃ ga c, a.1.2 = .slice (some ⟨ga, 0, none⟩) a.1.1.args.length c ∧ Iv a ga ∧ (∀ o, w.frozen? ⟨ga, o, none⟩ = false) ∧ (∀ t, t < 4 → ∃ v, w.cell? ⟨ga, n * 4 + t, none⟩ = some v) ∧
   ((∀ k, S k → k ≠ ga) → RepLG (fun k => Iv a k ∨ S k) (putCells w ga (n * 4) [c0, c1, c2, c3]) (a.1.1.args.set n u) a.1.2) := by
 obtain ⟨hs, ⟨hby, ⟨hnil, -⟩ | ⟨ga, c, cs, e, hc, hg, hh, hsz, hr⟩⟩, h3, h4⟩ := h
 ·rw [hnil] at hn; simp at hn
 ·have hlt : n * 4 + 4 ≤ cs.size := by omega
  refine ⟨ga, c, e, hg, fun o => by simp [World.frozen?, hh], fun t ht => ⟨cs[n * 4 + t]'(by omega), cell_of_block' hh _ (Array.getElem?_eq_getElem (by omega))⟩, fun hS => ?_⟩;obtain ⟨cs', e1, e2, e3, e4⟩ := putCells_same ga 27 [c0, c1, c2, c3] w (n * 4) cs hh (by simpa using hlt);have hoth : ∀ k, k ≠ ga → (putCells w ga (n * 4) [c0, c1, c2, c3]).heap[k]? = w.heap[k]? := fun k hk => putCells_other ga k hk _ _ _
  refine lg_of_slg ⟨some ⟨ga, 0, none⟩, ga, 0, c, by rw [e, List.length_set], by rw [List.length_set]; exact hc, by rw [List.length_set]; exact hby, fun _ => rfl, fun _ => .inl hg, fun i hi => ?_⟩;rw [List.length_set] at hi
  by_cases hin : i = n
  ·subst hin
   refine ⟨fun t => ([c0, c1, c2, c3] : List Value).getD t undef, fun t ht => ?_, ?_⟩
   ·rw [Nat.zero_add]
    have := e3 t (by simpa using ht)
    match t, ht with
    | 0, _ => exact cell_of_block' e1 _ this
    | 1, _ => exact cell_of_block' e1 _ this
    | 2, _ => exact cell_of_block' e1 _ this
    | 3, _ => exact cell_of_block' e1 _ this
   ·rw [List.getElem_set_self]
    exact RepG.on (fun k hk => .inr hk) (fun k hk => hoth k (hS k hk)) _ hu
  ·obtain ⟨d, f1, f2⟩ := hr i hi
   refine ⟨d, fun t ht => ?_, ?_⟩
   ·rw [Nat.zero_add]
    exact cell_of_block' e1 _ ((e4 _ (by simp; omega)).trans (f1 t ht))
   ·rw [List.getElem_set_ne (Ne.symm hin)]
    exact RepG.on (fun k hk => .inl hk.1) (fun k hk => hoth k hk.2) _ f2
end Go.Proofs.Ytpnaegohjbaggaa
namespace Go.Proofs.Ytpnaegohjbaggaa
open Go.RowKit
def kdCe : Kd Cel where
 T := 47
 ST := 40
 n := 3
 bytes := 48
 R := fun _ _ x c => c 0 = .string x.1.name ∧ c 1 = x.2 ∧ c 2 = .int .i64 x.1.stamp ∧ ∃ a m k, x.2 = .slice a m k
 pos := by omega
 few := by omega
 on := fun _ _ h => h
 one := fun h j hj => by
  obtain ⟨h0, h1, h2, a, m, k, h3⟩ := h
  match j, hj with
  | 0, _ => rw [h0]; rfl
  | 1, _ => rw [h1, h3]; rfl
  | 2, _ => rw [h2]; rfl
 und := Try.underlying40
 info := info_of (by kernel_rfl)
theorem OwnK.look {α : Type} {K : Kd α} {S : Nat → Prop} {w : World} {B : Nat} {l : List α} {v : Value} (h : OwnK K S w B l v) (hl : 0 < l.length) :
  ∃ g cap cs, v = .slice (some ⟨g, 0, none⟩) l.length cap ∧ B ≤ g ∧ l.length ≤ cap ∧ w.heap[g]? = some (.cells cs K.T (0, 0)) ∧ cs.size = cap * K.n ∧ ∀ i (h : i < l.length), ∃ c : Nat → Value, (∀ j, j < K.n → cs[i * K.n + j]? = some (c j)) ∧ K.R S w l[i] c := by
 obtain ⟨xs, ⟨hlen, hown⟩, hr⟩ := h;rcases hown with ⟨rfl, hn⟩ | ⟨g, cap, cur, rfl, hbg, hh, hnc, hcm, hcs, htk⟩
 ·omega
 ·refine ⟨g, cap, cur, rfl, hbg, hnc, hh, hcs, fun i hi => ?_⟩
  obtain ⟨c, hc, hR⟩ := hr i hi;refine ⟨c, fun j hj => ?_, hR⟩;have h1 := hc j hj;rw [← htk, List.getElem?_take] at h1
  have hlt : i * K.n + j < l.length * K.n := by
   have : (i + 1) * K.n ≤ l.length * K.n := Nat.mul_le_mul_right _ hi;rw [Nat.succ_mul] at this; omega
  rw [if_pos hlt] at h1;rw [← Array.getElem?_toList]; exact h1
theorem seg_facts {n : Nat} {M : List Cel} {blk o : Nat} {l : List Sl} (h : Segs n M blk o l) : o ≤ M.length ∧ ∀ i (h : i < l.length), l[i].1 = blk ∧ 0 < l[i].2.2.1 ∧ l[i].2.1 + l[i].2.2.1 ≤ o ∧ l[i].2.2.1 ≤ l[i].2.2.2 ∧ ∀ j (hj : j < l.length), i < j → l[i].2.1 + l[i].2.2.1 ≤ l[j].2.1 := by
 induction h with
 | nil => exact ⟨Nat.zero_le _, fun i h => by simp at h⟩
 | @snoc o k c l hs hk ho hal hne hc ih =>
  refine ⟨ho, fun i hi => ?_⟩;rw [List.length_append, List.length_singleton] at hi
  by_cases e : i < l.length
  ·obtain ⟨h1, h2, h3, h4, h5⟩ := ih.2 i e
   rw [List.getElem_append_left e];refine ⟨h1, h2, by omega, h4, fun j hj hij => ?_⟩;rw [List.length_append, List.length_singleton] at hj
   by_cases e2 : j < l.length
   ·rw [List.getElem_append_left e2]; exact h5 j e2 hij
   ·have : j = l.length := by omega
    subst this;rw [List.getElem_append_right (Nat.le_refl _)];simp only [Nat.sub_self, List.getElem_cons_zero]
    exact h3
  ·have : i = l.length := by omega
   subst this;rw [List.getElem_append_right (Nat.le_refl _)];simp only [Nat.sub_self, List.getElem_cons_zero]
   exact ⟨trivial, hk, Nat.le_refl _, hc, fun j hj hij => by rw [List.length_append, List.length_singleton] at hj; omega⟩
def newCel (tv : Cel → List Cel → V) (n : Nat) (x : Cel) (l : List Cel) : Cel := (⟨x.1.name, x.1.args.set n (tv x l), longZ x.1.stamp (x :: l)⟩, x.2)
def setOf (M : List Cel) (s : Sl) : List Cel := (M.drop s.2.1).take s.2.2.1
def newOf (tv : Cel → List Cel → V) (n : Nat) (M : List Cel) (s : Sl) : Cel := match setOf M s with | [] => (⟨⟨#[]⟩, [], 0⟩, .slice none 0 0) | x :: l => newCel tv n x l
theorem setOf_cons {M : List Cel} {s : Sl} (hk : 0 < s.2.2.1) (ho : s.2.1 + s.2.2.1 ≤ M.length) : setOf M s = M[s.2.1]'(by omega) :: (M.drop (s.2.1 + 1)).take (s.2.2.1 - 1) := by
 unfold setOf;rw [List.drop_eq_getElem_cons (by omega)];obtain ⟨k, hk⟩ : ∃ k, s.2.2.1 = k + 1 := ⟨s.2.2.1 - 1, by omega⟩;rw [hk, List.take_succ_cons]; rfl
def Tells (g : Nat) (cb : Array Value) (tv : Cel → List Cel → V) (n ab tb : Nat) : Prop :=
 ∀ (x : Cel) (l : List Cel) (blk o cap : Nat) (S : Nat → Prop) (w : World), l.length + 1 ≤ 140737488355328 → (∀ k, S k → k < w.heap.size) → w.cell? ⟨ab, 0, none⟩ = some (.int .i64 (n : Int)) →
  w.cell? ⟨tb, 0, none⟩ = some (.func (.func 56) #[] #[.pointer (some ⟨ab, 0, none⟩)]) → (∀ j (h : j < (x :: l).length), HasRow w blk (o + j) (x :: l)[j]) → blk < w.heap.size →
  (∀ y ∈ x :: l, RepRo S w y.1 (.string y.1.name) y.2 (.int .i64 y.1.stamp)) → (∀ y ∈ x :: l, n < y.1.args.length) →
  ∀ S' : Nat → Prop, (∀ k, S' k → k < w.heap.size) → (∀ y ∈ x :: l, ElAt S' n y w) →
  Calls Try.prog g (#[.slice (some ⟨blk, o * 3, none⟩) (l.length + 1) cap] ++ cb) w (TellPost S' (tv x l) w)
def aggV (s : ByteArray) (n : Nat) (x : Cel) (l : List Cel) : V :=
 if (s.toList == ([109, 105, 110] : List UInt8)) = true then argN n (minC (cmpAt n) x l) else if (s.toList == ([109, 97, 120] : List UInt8)) = true then argN n (maxC (cmpAt n) x l) else numN ((l.length + 1 : Nat) : Int)
theorem agg_tells (s : ByteArray) (n ab tb : Nat) : (aggFn s tb ab = .nilFunc ∧ s.toList ≠ [109, 105, 110] ∧ s.toList ≠ [109, 97, 120] ∧ s.toList ≠ [99, 111, 117, 110, 116]) ∨
  ∃ g cb, aggFn s tb ab = .func (.func g) #[] cb ∧ (∀ args w, Sem.run Try.prog (callFunc g args) w = .ok (.enter g args) w) ∧ Tells g cb (aggV s n) n ab tb := by
 unfold aggFn
 by_cases h1 : (s.toList == ([109, 105, 110] : List UInt8)) = true
 ·rw [if_pos h1]
  refine .inr ⟨_, _, rfl, fun args w => by kernel_rfl, fun x l blk o cap S w a1 a2 a3 a4 a5 a6 a7 a8 S' b1 b2 => ?_⟩;have e : aggV s n x l = argN n (minC (cmpAt n) x l) := by unfold aggV; rw [if_pos h1]
  rw [e]; exact tell_min n ab tb x l blk o cap S w a1 a2 a3 a4 a5 a6 a7 a8 S' b1 b2
 ·rw [if_neg h1]
  by_cases h2 : (s.toList == ([109, 97, 120] : List UInt8)) = true
  ·rw [if_pos h2]
   refine .inr ⟨_, _, rfl, fun args w => by kernel_rfl, fun x l blk o cap S w a1 a2 a3 a4 a5 a6 a7 a8 S' b1 b2 => ?_⟩;have e : aggV s n x l = argN n (maxC (cmpAt n) x l) := by unfold aggV; rw [if_neg h1, if_pos h2]
   rw [e]; exact tell_max n ab tb x l blk o cap S w a1 a2 a3 a4 a5 a6 a7 a8 S' b1 b2
  ·rw [if_neg h2]
   by_cases h3 : (s.toList == ([99, 111, 117, 110, 116] : List UInt8)) = true
   ·rw [if_pos h3]
    refine .inr ⟨_, _, rfl, fun args w => by kernel_rfl, fun x l blk o cap S w a1 a2 a3 a4 a5 a6 a7 a8 S' b1 b2 => ?_⟩;have e : aggV s n x l = numN ((l.length + 1 : Nat) : Int) := by unfold aggV; rw [if_neg h1, if_neg h2]
    rw [e]; exact tell_count (l.length + 1) _ cap S' w a1
   ·rw [if_neg h3]
    exact .inl ⟨rfl, fun e => h1 (beq_iff_eq.2 e), fun e => h2 (beq_iff_eq.2 e), fun e => h3 (beq_iff_eq.2 e)⟩
def SetS (LC : List Cow) (s : Sl) (b : Nat) : Prop := ∃ p, ∃ h : p < LC.length, s.2.1 ≤ p ∧ p < s.2.1 + s.2.2.1 ∧ Iv LC[p] b
structure GInv (tv : Cel → List Cel → V) (n : Nat) (LC : List Cow) (segs : List Sl) (w3 : World) (i : Nat) (ov : Value) (wr : World) : Prop where
 le : i ≤ segs.length
 out : MineS kdCe (fun _ => False) wr w3.heap.size ((segs.take i).map (newOf tv n (LC.map (·.1)))) ov
 rest : ∀ p (h : p < LC.length), (∀ j (hj : j < segs.length), j < i → segs[j].2.1 + segs[j].2.2.1 ≤ p) → OwnC wr LC[p]
 done : ∀ j (hj : j < segs.length), j < i → RepRo (SetS LC segs[j]) wr (newOf tv n (LC.map (·.1)) segs[j]).1 (.string (newOf tv n (LC.map (·.1)) segs[j]).1.name) (newOf tv n (LC.map (·.1)) segs[j]).2 (.int .i64 (newOf tv n (LC.map (·.1)) segs[j]).1.stamp)
 keep : ∀ b, b < w3.heap.size → (∀ a ∈ LC, ¬ Iv a b) → wr.heap[b]? = w3.heap[b]?
 os : wr.os = w3.os
 tape : wr.tape = w3.tape
 output : wr.output = w3.output
 size : w3.heap.size ≤ wr.heap.size
end Go.Proofs.Ytpnaegohjbaggaa
namespace Go.Proofs.Ytpnaegohjbaggaa
open Go.RowKit
set_option maxRecDepth 100000 in
set_option maxHeartbeats 1000000 in
theorem index_none (p : Option Addr) (cap : Nat) (fv : Value) (w : World) :
  Calls Try.prog 62 #[.slice p 0 cap, fv] w fun e w' => e = .returned (.int .i64 (-1)) ∧ w' = w := by
 go_enter Try.func62, Try.ntmps62
 go_wp2_with fail
 go_loopw [8] (fun iv wr => iv = .int .i64 0 ∧ wr = w) (fun _ _ => 0)
 case atStart => exact ⟨rfl, rfl⟩
 case round =>
  obtain ⟨rfl, rfl⟩ := hrel;go_wp2_with fail
  go_ret
  exact ⟨rfl, rfl⟩
set_option maxRecDepth 100000 in
set_option maxHeartbeats 1000000 in
theorem delete_none (p : Option Addr) (cap : Nat) (fv : Value) (w : World) :
  Calls Try.prog 35 #[.slice p 0 cap, fv] w fun e w' => e = .returned (.slice p 0 cap) ∧ w' = w := by
 go_enter Try.func35, Try.ntmps35
 go_wp2_with fail
 refine (index_none p cap fv _).mono ?_;rintro e w1 ⟨rfl, rfl⟩;go_wp2_with fail
 go_ret
 exact ⟨rfl, rfl⟩
set_option maxRecDepth 100000 in
set_option maxHeartbeats 2000000 in
theorem sets_none (n : Int) (p : Option Addr) (cap : Nat) (w : World) :
  Calls Try.prog 37 #[.int .i64 n, .slice p 0 cap] w fun e w' => e = .returned (.slice none 0 0) ∧ Below w.heap.size w w' := by
 go_enter Try.func37, Try.ntmps37
 go_upto_region 1 with fail
 obtain ⟨w1, hw1, m0, m1, ho⟩ := boxed2 w (.cells #[.int .i64 n] 3) (.cells #[.slice p 0 cap] 40);rw [hw1];have HO := Lib.hid ho;clear hw1 ho;obtain ⟨rb, hrb⟩ : ∃ b, w.heap.size + 1 = b := ⟨_, rfl⟩;rw [hrb] at m1 ⊢;clear hrb;have a0 := cell_of_block' (i := 0) m0 _ rfl;have r0 := cell_of_block' (i := 0) m1 _ rfl;clear m0 m1;have hs := fun fv => AnyF.slices_SortFunc_none Try.sortRow p cap fv w1
 change ∀ fv, Calls Try.prog 39 _ _ _ at hs;have HSO := Lib.hid hs;clear hs;go_wp2_with fail
 refine (HSO.out _).mono ?_;rintro e w2 ⟨rfl, rfl⟩;go_wp2_with fail
 go_loopw [5] (fun ov wr => ov = .slice none 0 0 ∧ wr = w2) (fun _ _ => 0)
 case atStart => exact ⟨rfl, rfl⟩
 case round =>
  obtain ⟨rfl, rfl⟩ := hrel;go_wp2_with fail
  go_ret
  exact ⟨rfl, HO.out.below⟩
end Go.Proofs.Ytpnaegohjbaggaa
namespace Go.Proofs.Ytpnaegohjbaggaa
open Go.RowKit
theorem longZ_i64 : ∀ (l : List Cel) (m : Int), I64 m → (∀ y ∈ l, I64 y.1.stamp) → I64 (longZ m l)
 | [], m, h, _ => h
 | y :: l, m, h, hl => by
  rw [longZ];refine longZ_i64 l _ ?_ (fun z hz => hl z (List.mem_cons_of_mem _ hz))
  split
  ·exact hl y (by simp)
  ·exact h
theorem own_form {a : Cow} {w : World} {n : Nat} (h : OwnC w a) (hn : n < a.1.1.args.length) : ∃ ga cx, a.1.2 = .slice (some ⟨ga, 0, none⟩) a.1.1.args.length cx ∧ Iv a ga ∧ ga < w.heap.size ∧ ElAt (fun b => Iv a b ∧ b ≠ ga) n a.1 w := by
 obtain ⟨hs, ⟨hby, ⟨hnil, -⟩ | ⟨ga, c, cs, e, hc, hg, hh, hsz, hr⟩⟩, h3, h4⟩ := h
 ·rw [hnil] at hn; simp at hn
 ·refine ⟨ga, c, e, hg, (Array.getElem?_eq_some_iff.1 hh).1, fun c3 xb xo xc he hcell => ?_⟩
  rw [e] at he
  injection he with e1 e2 e3
  injection e1 with e1
  injection e1 with e4 e5
  subst e4; subst e5
  obtain ⟨d, f1, f2⟩ := hr n hn;have h5 := cell_read hh hcell;rw [Nat.zero_add] at h5;have h6 := f1 3 (by decide);rw [h5] at h6;have h7 : c3 = d 3 := Option.some.inj h6;obtain ⟨va, vc, d0, d1, d2, -⟩ := f2.form;rw [d0, d1, d2, ← h7] at f2;rw [argN_at hn];exact f2
theorem set_get {M : List Cel} {o m : Nat} (ho : o + (m + 1) ≤ M.length) : ∃ l' : List Cel, (M.drop o).take (m + 1) = M[o]'(by omega) :: l' ∧ l'.length = m ∧ ∀ j (h : j < (M[o]'(by omega) :: l').length) (h2 : o + j < M.length), (M[o]'(by omega) :: l')[j] = M[o + j] := by
 refine ⟨(M.drop (o + 1)).take m, ?_, by rw [List.length_take, List.length_drop]; omega, fun j h h2 => ?_⟩
 ·rw [List.drop_eq_getElem_cons (by omega), List.take_succ_cons]
 ·cases j with
  | zero => rfl
  | succ j =>
   rw [List.getElem_cons_succ, List.getElem_take, List.getElem_drop]
   congr 1; omega
theorem ginv_set {tv : Cel → List Cel → V} {n : Nat} {LC : List Cow} {segs : List Sl} {w3 wr : World} {i : Nat} {ov : Value} {gb o m c N : Nat} (hinv : GInv tv n LC segs w3 i ov wr) (hap : Apart LC)
  (hsf : ∀ j (hj : j < segs.length), j < i → segs[j].2.1 + segs[j].2.2.1 ≤ o) (ho : o + (m + 1) ≤ (LC.map (·.1)).length) (hrow : RowsAt wr gb N (LC.map (·.1))) (hlong : ∀ a ∈ LC, n < a.1.1.args.length) :
  ∃ (h0 : o < LC.length) (l' : List Cel) (ga cx : Nat), setOf (LC.map (·.1)) (gb, o, m + 1, c) = LC[o].1 :: l' ∧ l'.length = m ∧ OwnC wr LC[o] ∧ LC[o].1.2 = .slice (some ⟨ga, 0, none⟩) LC[o].1.1.args.length cx ∧ Iv LC[o] ga ∧
   (∀ j (h : j < (LC[o].1 :: l').length), HasRow wr gb (o + j) (LC[o].1 :: l')[j]) ∧
   (∀ y ∈ LC[o].1 :: l', RepRo (SetS LC (gb, o, m + 1, c)) wr y.1 (.string y.1.name) y.2 (.int .i64 y.1.stamp) ∧ n < y.1.args.length ∧ ElAt (fun b => SetS LC (gb, o, m + 1, c) b ∧ b ≠ ga) n y wr) ∧
   (∀ k, SetS LC (gb, o, m + 1, c) k → k < wr.heap.size) := by
 rw [List.length_map] at ho;have h0 : o < LC.length := by omega
 obtain ⟨l', e1, e2, e3⟩ := set_get (M := LC.map (·.1)) (o := o) (m := m) (by rw [List.length_map]; exact ho);rw [List.getElem_map] at e1;simp only [List.getElem_map] at e3
 have hown : ∀ p (h : p < LC.length), o ≤ p → OwnC wr LC[p] := fun p h hp => hinv.rest p h (fun j hj hji => Nat.le_trans (hsf j hj hji) hp)
 obtain ⟨ga, cx, f1, f2, f3, f4⟩ := own_form (hown o h0 (Nat.le_refl _)) (hlong _ (List.getElem_mem h0));refine ⟨h0, l', ga, cx, e1, e2, hown o h0 (Nat.le_refl _), f1, f2, fun j h => ?_, fun y hy => ?_, fun k hk => ?_⟩
 ·have hj : o + j < (LC.map (·.1)).length := by rw [List.length_map]; simp at h; omega
  rw [e3 j h hj];have := hrow.2.2 (o + j) hj;rw [List.getElem_map] at this;exact this
 ·obtain ⟨j, hj, rfl⟩ := List.getElem_of_mem hy
  have hj2 : o + j < LC.length := by simp at hj; omega
  rw [e3 j hj (by rw [List.length_map]; exact hj2)];have ho2 := hown (o + j) hj2 (by omega);have hl := hlong _ (List.getElem_mem hj2);have hsub : ∀ b, Iv LC[o + j] b → SetS LC (gb, o, m + 1, c) b := fun b hb => ⟨o + j, hj2, by show o ≤ _; omega, by show o + j < o + (m + 1); simp at hj; omega, hb⟩
  refine ⟨RepRo.on hsub (fun _ _ => rfl) ho2.rep, hl, ?_⟩;obtain ⟨ga2, cx2, g1, g2, g3, g4⟩ := own_form ho2 hl;intro c3 xb xo xc he hcell;refine RepG.on (fun b hb => ⟨hsub b hb.1, ?_⟩) (fun _ _ => rfl) _ (g4 c3 xb xo xc he hcell)
  by_cases hz : j = 0
  ·subst hz
   have hga : ga2 = ga := by
    simp only [Nat.add_zero] at g1
    rw [f1] at g1
    injection g1 with e _ _
    injection e with e
    injection e with e _
    exact e.symm
   rw [← hga]; exact hb.2
  ·intro e
   subst e;exact (List.pairwise_iff_getElem.1 hap o (o + j) h0 hj2 (by omega)) _ f2 hb.1
 ·obtain ⟨p, hp, h1, h2, h3⟩ := hk
  exact Nat.lt_of_lt_of_le h3.2 (hown p hp h1).1
theorem ginv_step {tv : Cel → List Cel → V} {n : Nat} {LC : List Cow} {segs : List Sl} {w3 wr wB wG : World} {i : Nat} {ov ov' : Value} {gb o m c ga cx : Nat} {l' : List Cel} {c0 c1 c2 c3 : Value} (hinv : GInv tv n LC segs w3 i ov wr) (hap : Apart LC)
  (hi : i < segs.length) (hq : segs[i] = (gb, o, m + 1, c)) (hsf : ∀ j (hj : j < segs.length), j < i → segs[j].2.1 + segs[j].2.2.1 ≤ o) (hhi : ∀ a ∈ LC, a.2.2 ≤ w3.heap.size) (hlong : ∀ a ∈ LC, n < a.1.1.args.length) (h0 : o < LC.length)
  (hset : setOf (LC.map (·.1)) (gb, o, m + 1, c) = LC[o].1 :: l') (hrep : ∀ y ∈ LC[o].1 :: l', I64 y.1.stamp) (hga : LC[o].1.2 = .slice (some ⟨ga, 0, none⟩) LC[o].1.1.args.length cx) (hiv : Iv LC[o] ga)
  (hB : Below wr.heap.size wr wB) (hu : RepG (fun b => SetS LC (gb, o, m + 1, c) b ∧ b ≠ ga) wB (tv LC[o].1 l') c0 c1 c2 c3)
  (hG : ∀ b, b < wr.heap.size → ov.ownBlock ≠ some b → wG.heap[b]? = (putCells wB ga (n * 4) [c0, c1, c2, c3]).heap[b]?) (hos : wG.os = wr.os) (htp : wG.tape = wr.tape) (hou : wG.output = wr.output) (hsz : wr.heap.size ≤ wG.heap.size)
  (hout : MineS kdCe (fun _ => False) wG w3.heap.size ((segs.take i).map (newOf tv n (LC.map (·.1))) ++ [newCel tv n LC[o].1 l']) ov') : GInv tv n LC segs w3 (i + 1) ov' wG := by
 have hnew : newOf tv n (LC.map (·.1)) (gb, o, m + 1, c) = newCel tv n LC[o].1 l' := by unfold newOf; rw [hset]
 have hw3 := hinv.size;have hlies := hinv.out.lies;have hst : ∀ b, b < w3.heap.size → ov.ownBlock ≠ some b := fun b hb e => by have := (hlies b e).1; omega
 have hgal : ga < w3.heap.size := Nat.lt_of_lt_of_le hiv.2 (hhi _ (List.getElem_mem h0));have hsame : ∀ b, b < w3.heap.size → b ≠ ga → wG.heap[b]? = wr.heap[b]? := fun b hb hne => ((hG b (by omega) (hst b hb)).trans (putCells_other ga b hne _ _ _)).trans (hB.block b (by omega))
 have hfar : ∀ p (h : p < LC.length), p ≠ o → ∀ b, Iv LC[p] b → b ≠ ga := fun p h hpo b hb e => by
  subst e;rcases Nat.lt_or_ge p o with hlt | hge
  ·exact (List.pairwise_iff_getElem.1 hap p o h h0 hlt) _ hb hiv
  ·exact (List.pairwise_iff_getElem.1 hap o p h0 h (by omega)) _ hiv hb
 have hlt3 : ∀ p (h : p < LC.length) b, Iv LC[p] b → b < w3.heap.size := fun p h b hb => Nat.lt_of_lt_of_le hb.2 (hhi _ (List.getElem_mem h))
 refine ⟨hi, ?_, fun p hp hpj => ?_, fun j hj hji => ?_, fun b hb hn => ?_, hos.trans hinv.os, htp.trans hinv.tape, hou.trans hinv.output, Nat.le_trans hw3 hsz⟩
 ·rw [List.take_succ_eq_append_getElem hi, List.map_append, List.map_singleton, hq, hnew]
  exact hout
 ·have hpo := hpj i hi (Nat.lt_succ_self i)
  rw [hq] at hpo;have hpo' : o + (m + 1) ≤ p := hpo;exact (hinv.rest p hp (fun j hj hji => hpj j hj (by omega))).on hsz (fun k hk => hsame k (hlt3 p hp k hk) (hfar p hp (by omega) k hk))
 ·by_cases e : j = i
  ·subst e
   rw [hq, hnew];have how := hinv.rest o h0 hsf;have howB : OwnC wB LC[o] := how.on hB.size (fun k hk => hB.block k (Nat.lt_of_lt_of_le hk.2 how.1));obtain ⟨ga2, cc, g1, g2, g3, g4, g5⟩ := own_put howB (hlong _ (List.getElem_mem h0)) hu
   have hge : ga2 = ga := by
    rw [hga] at g1
    injection g1 with e _ _
    injection e with e
    injection e with e _
    exact e.symm
   subst hge;have h6 := g5 (fun k hk => hk.2);have hsub : ∀ b, Iv LC[o] b → SetS LC (gb, o, m + 1, c) b := fun b hb => ⟨o, h0, Nat.le_refl _, by show o < o + (m + 1); omega, hb⟩
   refine ⟨rfl, how.2.2.1, RepLG.on (fun b hb => ?_) (fun b hb => ?_) h6, rfl, longZ_i64 _ _ (hrep _ (by simp)) hrep⟩
   ·rcases hb with hb | hb
    ·exact hsub b hb
    ·exact hb.1
   ·have hb3 : b < w3.heap.size := by
     rcases hb with hb | hb
     ·exact hlt3 o h0 b hb
     ·obtain ⟨p, hp, -, -, h⟩ := hb.1
      exact hlt3 p hp b h
    exact hG b (by omega) (hst b hb3)
  ·have hji' : j < i := by omega
   have hd := hinv.done j hj hji';refine RepRo.on (fun _ h => h) (fun b hb => ?_) hd;obtain ⟨p, hp, h1, h2, h3⟩ := hb;have := hsf j hj hji';exact hsame b (hlt3 p hp b h3) (hfar p hp (by omega) b h3)
 ·have hne : b ≠ ga := fun e => hn _ (List.getElem_mem h0) (by rw [e]; exact hiv)
  exact (hsame b hb hne).trans (hinv.keep b hb hn)
end Go.Proofs.Ytpnaegohjbaggaa
